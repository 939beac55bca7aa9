/- Contracts of the program's comparison and of the heap of ready jobs, and of container/heap over it. Conditions: those that each theorem names. -/
import Derived.Test.YtdhdodmpfbgliaaDoorMem
import Derived.StillTailTactics
import Derived.Test.YtdhdodmpfbgliaaDoorRunAll
import Derived.Test.YtdhdodmpfbgliaaDoorPlain
import Derived.BigRegion
namespace Go.Proofs.YtdhdodmpfbgliaaDoor
open Go.RowKit Go.Deep

/-- -1, 0 or 1. -/
def cmpI (x y : Int) : Int := if x < y then -1 else if y < x then 1 else 0
/-- The first that is not 0. -/
def orI (x y : Int) : Int := if x = 0 then y else x
theorem cmpI_bd (x y : Int) : -1 ≤ cmpI x y ∧ cmpI x y ≤ 1 := by
  unfold cmpI
  split
  · omega
  · split <;> omega
theorem orI_lt (x y x' y' : Int) : orI (cmpI x y) (cmpI x' y') < 0 ↔ x < y ∨ (x = y ∧ x' < y') := by
  unfold orI cmpI
  by_cases h1 : x < y
  · simp [h1]
  · by_cases h2 : y < x
    · simp [h1, h2]; omega
    · by_cases h3 : x' < y'
      · simp [h1, h2, h3]; omega
      · by_cases h4 : y' < x'
        · simp [h1, h2, h3, h4]
        · simp [h1, h2, h3, h4]

/-- cmp.Compare[int]. -/
theorem compare_any (x y : Int) (w : World) :
    Calls Tryd.prog 62 #[.int .i64 x, .int .i64 y] w fun e w' => e = .returned (.int .i64 (cmpI x y)) ∧ w' = w := by
  by_cases h1 : x < y
  · go_enter Tryd.func62, Tryd.ntmps62
    go_wp2
    go_ret
    exact ⟨by simp [cmpI, h1], rfl⟩
  · by_cases h2 : y < x
    · go_enter Tryd.func62, Tryd.ntmps62
      go_wp2
      go_ret
      exact ⟨by simp [cmpI, h1, h2], rfl⟩
    · go_enter Tryd.func62, Tryd.ntmps62
      go_wp2
      go_ret
      exact ⟨ret_int (show (0 : Int) = _ by rw [cmpI, if_neg (by omega), if_neg (by omega)]), rfl⟩

/-- cmp.Or[int] of two. -/
theorem or_any (b : Nat) (x y : Int) (w : World) (h0 : w.cell? ⟨b, 0, none⟩ = some (.int .i64 x)) (h1 : w.cell? ⟨b, 1, none⟩ = some (.int .i64 y)) :
    Calls Tryd.prog 61 #[.slice (some ⟨b, 0, none⟩) 2 2] w fun e w' => e = .returned (.int .i64 (orI x y)) ∧ w' = w := by
  go_enter Tryd.func61, Tryd.ntmps61
  go_wp2
  go_loop [8] (fun i => ∃ k : Nat, i = .int .i64 k ∧ k ≤ 2 ∧ (1 ≤ k → x = 0) ∧ (2 ≤ k → y = 0)) (fun i => 2 - (intOf i).toNat)
  case atStart => exact ⟨0, rfl, by omega, by omega, by omega⟩
  case round =>
    obtain ⟨k, rfl, hk, hx, hy⟩ := hrel
    by_cases hk0 : k = 0
    · subst hk0
      clear hx hy
      by_cases hz : x = 0
      · subst hz
        go_wp2
        go_round
        case rel => exact ⟨1, rfl, by omega, by simp, by omega⟩
        case measure => simp [intOf]
      · have hz' : (x != 0) = true := by simpa using hz
        have hz'' : (x == 0) = false := by simpa using hz
        go_wp2
        go_ret
        exact ⟨by simp [orI, hz], rfl⟩
    · by_cases hk1 : k = 1
      · subst hk1
        obtain rfl := hx (Nat.le_refl _)
        clear hx hy
        by_cases hz : y = 0
        · subst hz
          go_wp2
          go_round
          case rel => exact ⟨2, rfl, by omega, by simp, by simp⟩
          case measure => simp [intOf]
        · have hz' : (y != 0) = true := by simpa using hz
          have hz'' : (y == 0) = false := by simpa using hz
          go_wp2
          go_ret
          exact ⟨by simp [orI], rfl⟩
      · obtain rfl : k = 2 := by omega
        obtain rfl := hx (by omega)
        obtain rfl := hy (by omega)
        clear hx hy
        go_wp2
        go_ret
        exact ⟨by simp [orI], rfl⟩

theorem or_new (x y : Int) (w : World) :
    Calls Tryd.prog 61 #[.slice (some ⟨w.heap.size, 0, none⟩) 2 2] (w.alloc (.cells #[.int .i64 x, .int .i64 y] 3)) fun e w' => e = .returned (.int .i64 (orI x y)) ∧ w.alloc (.cells #[.int .i64 x, .int .i64 y] 3) = w' :=
  (or_any _ x y _ (by simp [go_sem]) (by simp [go_sem])).mono fun _ _ ⟨a, b⟩ => ⟨a, b.symm⟩

/-- A call that only draws, in a quiet region. -/
theorem quiet_drew {P : Program} {f : FuncId} {args : Array Value} {w : World} {n : Nat} {v : Value}
    (h : Calls P f args (w.drewN n) fun e w' => e = .returned v ∧ ∃ m, w' = (w.drewN n).drewN m) : Calls P f args (w.drewN n) fun e w'' => e = .returned v ∧ ∃ m, w'' = w.drewN m :=
  h.mono fun _ _ hh => ⟨hh.1, by obtain ⟨m, hm⟩ := hh.2; exact ⟨n + m, by rw [hm, World.drewN_drewN]⟩⟩

end Go.Proofs.YtdhdodmpfbgliaaDoor

namespace Go.Proofs.YtdhdodmpfbgliaaDoor
open Go.RowKit Go.Deep

/-- Job x comes before job y. -/
def befB (js : List J4) (x y : Nat) : Bool := decide ((jb js x).2.2.1 < (jb js y).2.2.1 ∨ ((jb js x).2.2.1 = (jb js y).2.2.1 ∧ x < y))

set_option maxRecDepth 100000 in
/-- The comparison of impl.earlierDeadline: job x comes before job y. -/
theorem before_any (cb : Nat) (ja : Option Addr) (jcap : Nat) (js : List J4) (x y : Nat) (w : World) (hc : w.cell? ⟨cb, 0, none⟩ = some (.slice ja js.length jcap)) (hj : RowJ w ja js) (hx : x < js.length) (hy : y < js.length) :
    Calls Tryd.prog 60 #[.int .i64 (x : Int), .int .i64 (y : Int), .pointer (some ⟨cb, 0, none⟩)] w fun e w' =>
      e = .returned (.bool (befB js x y)) ∧ Below w.heap.size w w' := by
  obtain ⟨bj, oj, rfl, hbj, _, _, x2, _⟩ := hj x hx
  obtain ⟨bj', oj', e, _, _, _, y2, _⟩ := hj y hy
  simp only [Option.some.injEq, Addr.mk.injEq, and_true] at e
  obtain ⟨rfl, rfl⟩ := e
  clear hj
  have hx0 : (0 : Int) ≤ x := by omega
  have hx1 : (x : Int) < js.length := by omega
  have hy0 : (0 : Int) ≤ y := by omega
  have hy1 : (y : Int) < js.length := by omega
  go_enter Tryd.func60, Tryd.ntmps60
  go_wp2
  refine wp_region_still_tail 14 (by kernel_rfl) (by kernel_rfl) ?_
  simp only [List.take_succ_cons, List.take_zero, List.drop_succ_cons, List.drop_zero]
  change wpStill _ _ w.drew (fun a' => wpList _ _ _ _ a' w.drew) _ _
  iterate 10 still_step
  still_call (compare_any _ _ _)
  iterate 2 still_step
  still_call (compare_any _ _ _)
  refine wpStill_nil ?_
  generalize hW : w.drew = W
  have HW := Lib.hid hW
  clear hW
  obtain ⟨c1, hc1⟩ : ∃ c, c = cmpI (jb js x).2.2.1 (jb js y).2.2.1 := ⟨_, rfl⟩
  obtain ⟨c2, hc2⟩ : ∃ c, c = cmpI (x : Int) y := ⟨_, rfl⟩
  rw [← hc1, ← hc2]
  have HC := Lib.hid (And.intro hc1 hc2)
  clear hc1 hc2
  go_wp2_with fail
  refine (or_new _ _ _).mono ?_
  rintro e w' ⟨rfl, rfl⟩
  obtain ⟨c3, hc3⟩ : ∃ c, c = orI c1 c2 := ⟨_, rfl⟩
  rw [← hc3]
  have HC3 := Lib.hid hc3
  clear hc3
  go_wp2
  go_ret
  refine ⟨ret_bool ?_, ?_⟩
  · rw [HC3.out, HC.out.1, HC.out.2]
    exact decide_eq_decide.2 ((orI_lt _ _ _ _).trans (by omega))
  · rw [← HW.out]
    exact (Below.refl _ _).drew.alloc (Nat.le_refl _) _

/-- impl.earlierDeadline: the comparison by deadlines of these jobs. -/
theorem earlierDeadline_any (ja : Option Addr) (jcap : Nat) (js : List J4) (w : World) :
    Calls Tryd.prog 33 #[.slice ja js.length jcap] w fun e w' =>
      e = .returned (.func (.func 60) #[] #[.pointer (some ⟨w.heap.size, 0, none⟩)]) ∧ w'.cell? ⟨w.heap.size, 0, none⟩ = some (.slice ja js.length jcap) ∧ w.heap.size < w'.heap.size ∧ Below w.heap.size w w' := by
  go_enter Tryd.func33, Tryd.ntmps33
  go_wp2
  go_ret
  exact ⟨rfl, by simp [go_sem], by simp, below_box _ _⟩

set_option maxRecDepth 100000 in
/-- impl.compareReleases. -/
theorem compareReleases_any (i r d e i' r' d' e' : Int) (w : World) :
    Calls Tryd.prog 53 #[.agg #[.int .i64 i, .int .i64 r, .int .i64 d, .int .i64 e], .agg #[.int .i64 i', .int .i64 r', .int .i64 d', .int .i64 e']] w fun en w' =>
      en = .returned (.int .i64 (orI (cmpI r r') (cmpI i i'))) ∧ Below w.heap.size w w' := by
  go_enter Tryd.func53, Tryd.ntmps53
  go_wp2
  generalize hW0 : (w.alloc (.cells #[.int .i64 i, .int .i64 r, .int .i64 d, .int .i64 e] 41)).alloc (.cells #[.int .i64 i', .int .i64 r', .int .i64 d', .int .i64 e'] 41) = W0
  have a0 : W0.cell? ⟨w.heap.size, 0, none⟩ = some (.int .i64 i) := by rw [← hW0]; simp [go_sem]
  have a1 : W0.cell? ⟨w.heap.size, 1, none⟩ = some (.int .i64 r) := by rw [← hW0]; simp [go_sem]
  have b0 : W0.cell? ⟨w.heap.size + 1, 0, none⟩ = some (.int .i64 i') := by rw [← hW0]; simp [go_sem]
  have b1 : W0.cell? ⟨w.heap.size + 1, 1, none⟩ = some (.int .i64 r') := by rw [← hW0]; simp [go_sem]
  have BB := Lib.hid (show Below w.heap.size w W0 by rw [← hW0]; exact (below_box _ _).alloc (by simp) _)
  clear hW0
  refine wp_region_still_tail 10 (by kernel_rfl) (by kernel_rfl) ?_
  simp only [List.take_succ_cons, List.take_zero, List.drop_succ_cons, List.drop_zero]
  change wpStill _ _ W0.drew (fun a' => wpList _ _ _ _ a' W0.drew) _ _
  iterate 4 still_step
  still_call (compare_any _ _ _)
  iterate 4 still_step
  still_call (compare_any _ _ _)
  refine wpStill_nil ?_
  generalize hW : W0.drew = W
  have HW := Lib.hid hW
  clear hW
  go_wp2_with fail
  refine (or_new _ _ _).mono ?_
  rintro e w' ⟨rfl, rfl⟩
  go_wp2
  go_ret
  refine ⟨rfl, ?_⟩
  rw [← HW.out]
  exact BB.out.drew.alloc BB.out.size _

end Go.Proofs.YtdhdodmpfbgliaaDoor

namespace Go.Proofs.YtdhdodmpfbgliaaDoor
open Go.RowKit Go.Deep

/-- Only block R and the block of a slice may have turned. -/
structure Chg (R : Nat) (g : Option Nat) (w w' : World) : Prop where
  os : w'.os = w.os
  tape : w'.tape = w.tape
  output : w'.output = w.output
  size : w.heap.size ≤ w'.heap.size
  block : ∀ k, k < w.heap.size → k ≠ R → some k ≠ g → w'.heap[k]? = w.heap[k]?
theorem Chg.refl (R : Nat) (g : Option Nat) (w : World) : Chg R g w w := ⟨rfl, rfl, rfl, Nat.le_refl _, fun _ _ _ _ => rfl⟩
theorem Chg.of_below {R : Nat} {g : Option Nat} {w w' : World} (h : Below w.heap.size w w') : Chg R g w w' := ⟨h.os, h.tape, h.output, h.size, fun k hk _ _ => h.block k hk⟩
theorem Chg.trans {R : Nat} {g g' : Option Nat} {a b c : World} (h : Chg R g a b) (k : Chg R g' b c) (hg : ∀ x, g' = some x → g = some x ∨ a.heap.size ≤ x) : Chg R g a c :=
  ⟨k.os.trans h.os, k.tape.trans h.tape, k.output.trans h.output, Nat.le_trans h.size k.size, fun i hi h1 h2 =>
    (k.block i (Nat.lt_of_lt_of_le hi h.size) h1 (fun e => (hg i e.symm).elim (fun e' => h2 e'.symm) (fun e' => by omega))).trans (h.block i hi h1 h2)⟩
theorem Chg.setCell {R : Nat} {g : Option Nat} {w w' : World} {p : Addr} (h : Chg R g w w') (hp : p.block = R ∨ some p.block = g) (x : Value) : Chg R g w (w'.setCell p x) :=
  ⟨h.os, h.tape, h.output, Nat.le_trans h.size (by simp [World.setCell]), fun k hk h1 h2 => (Below.heap_setCell w' p x k (by rintro rfl; exact hp.elim h1 h2)).trans (h.block k hk h1 h2)⟩
theorem Chg.below {R B : Nat} {g : Option Nat} {w w' : World} (h : Chg R g w w') (hR : B ≤ R) (hg : ∀ x, g = some x → B ≤ x) (hB : B ≤ w.heap.size) : Below B w w' :=
  ⟨h.os, h.tape, h.output, h.size, fun k hk => h.block k (by omega) (by omega) (fun e => by have := hg k e.symm; omega)⟩
theorem Chg.cell {R : Nat} {g : Option Nat} {w w' : World} (h : Chg R g w w') {p : Addr} (hp : p.block < w.heap.size) (h1 : p.block ≠ R) (h2 : some p.block ≠ g) : w'.cell? p = w.cell? p ∧ w'.frozen? p = w.frozen? p :=
  ⟨World.cell?_of_block (h.block _ hp h1 h2), World.frozen?_of_block (h.block _ hp h1 h2)⟩
theorem OwnI.of_block {w w' : World} {base : Nat} {v : Value} {n : Nat} {f : Nat → Int} (h : OwnI w base v n f) (e : ∀ k, v.ownBlock = some k → w'.heap[k]? = w.heap[k]?) : OwnI w' base v n f := by
  obtain ⟨h1, h2 | ⟨g, cap, cur, rfl, h3, h4, h5⟩⟩ := h
  · exact ⟨h1, .inl h2⟩
  · exact ⟨h1, .inr ⟨g, cap, cur, rfl, h3, (e g rfl).trans h4, h5⟩⟩
theorem OwnI.chg {w w' : World} {base R : Nat} {g : Option Nat} {v : Value} {n : Nat} {f : Nat → Int} (h : OwnI w base v n f) (hc : Chg R g w w') (h1 : v.ownBlock ≠ some R) (h2 : ∀ k, v.ownBlock = some k → g ≠ some k) : OwnI w' base v n f :=
  h.of_block fun k hk => hc.block k (h.lt k hk).2 (fun e => h1 (e ▸ hk)) (fun e => h2 k hk e.symm)

/-- What the comparison of jobs is: a closure of impl.RunEdf or of impl.RunFixed; K orders as it does. -/
structure Cmp (w0 : World) (cb : Value) (ja : Option Addr) (jcap : Nat) (js : List J4) (K : Nat → Nat) : Prop where
  row : RowJ w0 ja js
  call : (∃ c, cb = .func (.func 60) #[] #[.pointer (some ⟨c, 0, none⟩)] ∧ ∀ (W : World) (x y : Nat), Below w0.heap.size w0 W → x < js.length → y < js.length →
      Calls Tryd.prog 60 #[.int .i64 (x : Int), .int .i64 (y : Int), .pointer (some ⟨c, 0, none⟩)] W fun e w' => e = .returned (.bool (decide (K x < K y))) ∧ Below W.heap.size W w') ∨
    False
def befV (cb : Value) : Value := cb
theorem Cmp.shape {w0 : World} {cb : Value} {ja : Option Addr} {jcap : Nat} {js : List J4} {K : Nat → Nat} (h : Cmp w0 cb ja jcap js K) : ∃ g xs, cb = .func (.func g) #[] xs := by
  rcases h.call with ⟨c, e, _⟩ | h2
  · exact ⟨_, _, e⟩
  · exact h2.elim
/-- The heap in block R: n indices, f in order. -/
structure HS (w0 : World) (R : Nat) (cb : Value) (N : Nat) (w : World) (v : Value) (n : Nat) (f : Nat → Nat) : Prop where
  bl : Below w0.heap.size w0 w
  ge : w0.heap.size ≤ R
  c0 : w.cell? ⟨R, 0, none⟩ = some v
  c1 : w.cell? ⟨R, 1, none⟩ = some (befV cb)
  f0 : w.frozen? ⟨R, 0, none⟩ = false
  own : OwnI w w0.heap.size v n (fun k => ((f k : Nat) : Int))
  ap : v.ownBlock ≠ some R
  lt : ∀ k, k < n → f k < N
variable {w0 w w' : World} {R N n : Nat} {cb v : Value} {f : Nat → Nat}
theorem HS.R_lt (h : HS w0 R cb N w v n f) : R < w.heap.size := World.block_lt_of_cell? w ⟨R, 0, none⟩ h.c0
theorem HS.below (h : HS w0 R cb N w v n f) (hb : Below w.heap.size w w') : HS w0 R cb N w' v n f := by
  have hR := h.R_lt
  exact ⟨h.bl.trans (hb.mono h.bl.size), h.ge, (hb.cell (p := ⟨R, 0, none⟩) hR).trans h.c0, (hb.cell (p := ⟨R, 1, none⟩) hR).trans h.c1, (hb.frozen (p := ⟨R, 0, none⟩) hR).trans h.f0, h.own.below hb, h.ap, h.lt⟩
/-- What turns blocks from w0's end on, but neither R nor the slice's block, leaves the heap as it is. -/
theorem HS.other (h : HS w0 R cb N w v n f) {a : Addr} (x : Value) (h0 : w0.heap.size ≤ a.block) (h1 : a.block ≠ R) (h2 : v.ownBlock ≠ some a.block) : HS w0 R cb N (w.setCell a x) v n f := by
  have e : ∀ k, k ≠ a.block → (w.setCell a x).heap[k]? = w.heap[k]? := fun k hk => Below.heap_setCell w a x k hk
  have eR := e R (Ne.symm h1)
  exact ⟨h.bl.setCell h0 x, h.ge, (World.cell?_of_block (a := ⟨R, 0, none⟩) eR).trans h.c0, (World.cell?_of_block (a := ⟨R, 1, none⟩) eR).trans h.c1, (World.frozen?_of_block (a := ⟨R, 0, none⟩) eR).trans h.f0, h.own.other h2, h.ap, h.lt⟩
theorem HS.swap {g cap i j : Nat} (h : HS w0 R cb N w (.slice (some ⟨g, 0, none⟩) n cap) n f) (hi : i < n) (hj : j < n) :
    HS w0 R cb N ((w.setCell ⟨g, i, none⟩ (.int .i64 (f j : Int))).setCell ⟨g, j, none⟩ (.int .i64 (f i : Int))) (.slice (some ⟨g, 0, none⟩) n cap) n (swp f i j) := by
  have hg := (h.own.lt g rfl).1
  have hne : R ≠ g := fun e => h.ap (by rw [e]; rfl)
  have e : ∀ k, k ≠ g → ((w.setCell ⟨g, i, none⟩ (.int .i64 (f j : Int))).setCell ⟨g, j, none⟩ (.int .i64 (f i : Int))).heap[k]? = w.heap[k]? := fun k hk =>
    (Below.heap_setCell _ _ _ k hk).trans (Below.heap_setCell _ _ _ k hk)
  refine ⟨(h.bl.setCell hg _).setCell hg _, h.ge, (World.cell?_of_block (a := ⟨R, 0, none⟩) (e R hne)).trans h.c0, (World.cell?_of_block (a := ⟨R, 1, none⟩) (e R hne)).trans h.c1, (World.frozen?_of_block (a := ⟨R, 0, none⟩) (e R hne)).trans h.f0, ?_, h.ap, fun k hk => ?_⟩
  · exact ((h.own.set hi (f j : Int)).set hj (f i : Int)).congr fun k _ => by
      unfold swp
      by_cases h1 : k = j
      · rw [if_pos h1, if_pos h1]
      · by_cases h2 : k = i
        · rw [if_neg h1, if_neg h1, if_pos h2, if_pos h2]
        · rw [if_neg h1, if_neg h1, if_neg h2, if_neg h2]
  · unfold swp
    split
    · exact h.lt i hi
    · split
      · exact h.lt j hj
      · exact h.lt k hk

/-- impl.readyJobs.Len. -/
theorem len_any (h : HS w0 R cb N w v n f) :
    Calls Tryd.prog 57 #[.pointer (some ⟨R, 0, none⟩)] w fun e w' => e = .returned (.int .i64 (n : Int)) ∧ w = w' := by
  obtain ⟨a, cap, rfl⟩ := own_shape h.own
  have c0 := h.c0
  clear h
  go_enter Tryd.func57, Tryd.ntmps57
  go_wp2
  go_ret
  exact ⟨rfl, rfl⟩

/-- impl.readyJobs.first. -/
theorem first_any (h : HS w0 R cb N w v n f) (hn : 0 < n) :
    Calls Tryd.prog 58 #[.pointer (some ⟨R, 0, none⟩)] w fun e w' => e = .returned (.int .i64 (f 0 : Int)) ∧ w = w' := by
  obtain ⟨g, cap, rfl, _, _, _, _, hc⟩ := h.own.at hn
  have c0 := h.c0
  have x0 := hc 0 hn
  clear h hc
  have hn' : (0 : Int) < n := by omega
  go_enter Tryd.func58, Tryd.ntmps58
  go_wp2
  go_ret
  exact ⟨rfl, rfl⟩

set_option maxRecDepth 100000 in
/-- impl.readyJobs.Less. -/
theorem less_any {ja : Option Addr} {jcap : Nat} {js : List J4} {K : Nat → Nat} {i j : Nat} (hC : Cmp w0 cb ja jcap js K) (h : HS w0 R cb js.length w v n f) (hi : i < n) (hj : j < n) :
    Calls Tryd.prog 111 #[.pointer (some ⟨R, 0, none⟩), .int .i64 (i : Int), .int .i64 (j : Int)] w fun e w' =>
      e = .returned (.bool (decide (K (f i) < K (f j)))) ∧ Below w.heap.size w w' := by
  obtain ⟨g, cap, rfl, _, _, _, _, hc⟩ := h.own.at (Nat.zero_lt_of_lt hi)
  have c0 := h.c0
  have c1 := h.c1
  have xi := hc i hi
  have xj := hc j hj
  have HL := Lib.hid (And.intro (h.lt i hi) (h.lt j hj))
  have HB := Lib.hid (show Below w0.heap.size w0 w.drew from h.bl.drew)
  obtain ⟨x, hx⟩ : ∃ x, x = f i := ⟨_, rfl⟩
  obtain ⟨y, hy⟩ : ∃ y, y = f j := ⟨_, rfl⟩
  rw [← hx] at xi HL ⊢
  rw [← hy] at xj HL ⊢
  have hcall := hC.call
  clear h hc hC hx hy
  have hi0 : (0 : Int) ≤ i := by omega
  have hi1 : (i : Int) < n := by omega
  have hj0 : (0 : Int) ≤ j := by omega
  have hj1 : (j : Int) < n := by omega
  unfold befV at c1
  rcases hcall with ⟨cc, rfl, hcc⟩ | h2
  · have HC := Lib.hid (hcc w.drew x y HB.out HL.out.1 HL.out.2)
    clear hcc
    go_enter Tryd.func111, Tryd.ntmps111
    go_wp2
    refine wp_region_still_tail 18 (by kernel_rfl) (by kernel_rfl) ?_
    simp only [List.take_succ_cons, List.take_zero, List.drop_succ_cons, List.drop_zero]
    change wpStill _ _ w.drew (fun a' => wpList _ _ _ _ a' w.drew) _ _
    iterate 18 still_step
    refine wpStill_nil ?_
    go_wp2_with fail
    refine HC.out.mono ?_
    rintro e w1 ⟨rfl, b1⟩
    go_wp2
    go_ret
    exact ⟨rfl, (Below.refl w.heap.size w).drew.trans b1⟩
  · exact h2.elim

set_option maxRecDepth 100000 in
set_option maxHeartbeats 2000000 in
/-- impl.readyJobs.Swap. -/
theorem swap_any {g cap i j : Nat} (h : HS w0 R cb N w (.slice (some ⟨g, 0, none⟩) n cap) n f) (hi : i < n) (hj : j < n) :
    Calls Tryd.prog 114 #[.pointer (some ⟨R, 0, none⟩), .int .i64 (i : Int), .int .i64 (j : Int)] w fun e w' =>
      e = .returned (.tuple #[]) ∧ HS w0 R cb N w' (.slice (some ⟨g, 0, none⟩) n cap) n (swp f i j) ∧ Chg R (some g) w w' := by
  obtain ⟨g', cap', e, _, _, _, hz, hc⟩ := h.own.at (Nat.zero_lt_of_lt hi)
  simp only [Value.slice.injEq, Option.some.injEq, Addr.mk.injEq, and_true, true_and] at e
  obtain ⟨rfl, rfl⟩ := e
  have c0 := h.c0
  have xi := hc i hi
  have xj := hc j hj
  have zi := hz i
  have zj := hz j
  have HH := Lib.hid h
  have hne : R ≠ g := fun e => h.ap (by rw [e]; rfl)
  clear h hc hz
  have hi0 : (0 : Int) ≤ i := by omega
  have hi1 : (i : Int) < n := by omega
  have hj0 : (0 : Int) ≤ j := by omega
  have hj1 : (j : Int) < n := by omega
  have xs : (w.setCell ⟨g, i, none⟩ (.int .i64 (f j : Int))).cell? ⟨g, j, none⟩ = some (.int .i64 (f j : Int)) := by
    have h2 := (HH.out.own.set hi (f j : Int)).cellAt hj
    rw [h2.1]
    split <;> rfl
  go_enter Tryd.func114, Tryd.ntmps114
  go_wp2
  go_region
  go_end0
  exact ⟨rfl, (HH.out.swap hi hj).below (Below.refl _ _).drew, ((((Chg.refl R (some g) w).setCell (.inr rfl) _).setCell (.inr rfl) _)).trans (Chg.of_below (g := some g) (Below.refl _ _).drew) (fun _ h => .inl h)⟩

end Go.Proofs.YtdhdodmpfbgliaaDoor

namespace Go.Proofs.YtdhdodmpfbgliaaDoor
open Go.RowKit Go.Deep
variable {w0 w w' : World} {R N n : Nat} {cb v : Value} {f : Nat → Nat}

theorem HS.push {v' : Value} {x : Nat} (h : HS w0 R cb N w v n f) (ho : w'.ownsRow w0.heap.size 3 1 v' (n + 1) (vals (fun k => ((f k : Nat) : Int)) n ++ [.int .i64 (x : Int)])) (hg : w.grownBy w' v.ownBlock)
    (hp : v'.ownBlock = v.ownBlock ∨ v'.ownBlock = some w.heap.size) (hx : x < N) : HS w0 R cb N (w'.setCell ⟨R, 0, none⟩ v') v' (n + 1) (fun k => if k = n then x else f k) := by
  have hR := h.R_lt
  have eR : w'.heap[R]? = w.heap[R]? := hg.block R hR (fun e => h.ap e.symm)
  have c0 := (World.cell?_of_block (a := ⟨R, 0, none⟩) eR).trans h.c0
  have c1 := (World.cell?_of_block (a := ⟨R, 1, none⟩) eR).trans h.c1
  have f0 := (World.frozen?_of_block (a := ⟨R, 0, none⟩) eR).trans h.f0
  have ap' : v'.ownBlock ≠ some R := by
    rcases hp with e | e
    · rw [e]; exact h.ap
    · rw [e]; intro e2; simp only [Option.some.injEq] at e2; omega
  have own : OwnI w' w0.heap.size v' (n + 1) (fun k => (((if k = n then x else f k : Nat)) : Int)) := by
    unfold OwnI
    rw [vals_succ]
    have e1 : vals (fun k => (((if k = n then x else f k : Nat)) : Int)) n = vals (fun k => ((f k : Nat) : Int)) n := by
      simp only [vals]
      refine List.map_congr_left fun k hk => ?_
      have hk' := List.mem_range.1 hk
      rw [if_neg (by omega)]
    rw [e1, if_pos rfl]
    exact ho
  refine ⟨(h.bl.grown hg h.bl.size (fun k hk => (h.own.lt k hk).1)).setCell h.ge _, h.ge, ?_, by simp [go_sem, c1], by simp [go_sem, f0], own.other ap', ap', fun k hk => ?_⟩
  · simp [go_sem, c0]
  · split
    · exact hx
    · exact h.lt k (by omega)

theorem Chg.of_grown {g : Option Nat} (h : w.grownBy w' g) : Chg R g w w' := ⟨h.os, h.tape, h.output, h.size, fun k hk _ h2 => h.block k hk h2⟩
theorem Chg.setR {g : Option Nat} {o : Nat} {x : Value} (h : Chg R g w w') : Chg R g w (w'.setCell ⟨R, o, none⟩ x) := h.setCell (p := ⟨R, o, none⟩) (.inl rfl) x
theorem OwnI.shrink {base g cap m : Nat} {f : Nat → Int} (h : OwnI w base (.slice (some ⟨g, 0, none⟩) (m + 1) cap) (m + 1) f) : OwnI w base (.slice (some ⟨g, 0, none⟩) m cap) m f := by
  obtain ⟨h1, ⟨e, _⟩ | ⟨g', cap', cur, e, h3, hb, hnc, hcm, hsz, hx⟩⟩ := h
  · simp at e
  · simp only [Value.slice.injEq, Option.some.injEq, Addr.mk.injEq, and_true, true_and] at e
    obtain ⟨rfl, rfl⟩ := e
    refine ⟨by rw [vals_len, Nat.mul_one], .inr ⟨g, cap, cur, rfl, h3, hb, by omega, hcm, hsz, ?_⟩⟩
    have h4 := congrArg (List.take m) hx
    have h5 : List.take m (vals f m) = vals f m := List.take_of_length_le (by rw [vals_len]; exact Nat.le_refl _)
    rw [List.take_take, vals_succ, List.take_append_of_le_length (by rw [vals_len]; exact Nat.le_refl _), h5, show min m ((m + 1) * 1) = m * 1 by omega] at h4
    exact h4
theorem HS.shrink {g cap m : Nat} (h : HS w0 R cb N w (.slice (some ⟨g, 0, none⟩) (m + 1) cap) (m + 1) f) : HS w0 R cb N (w.setCell ⟨R, 0, none⟩ (.slice (some ⟨g, 0, none⟩) m cap)) (.slice (some ⟨g, 0, none⟩) m cap) m f := by
  have c0 := h.c0
  have c1 := h.c1
  have f0 := h.f0
  exact ⟨h.bl.setCell h.ge _, h.ge, by simp [go_sem, c0], by simp [go_sem, c1], by simp [go_sem, f0], h.own.shrink.other h.ap, h.ap, fun k hk => h.lt k (by omega)⟩
theorem run_assert_int (x : Int) (w : World) : (Instr.typeAssert (.iface 3 (.int .i64 x)) 20 3 true).run Tryd.prog w = .ok (.tuple #[.int .i64 x, .bool true]) w := by kernel_rfl

set_option maxRecDepth 100000 in
/-- impl.readyJobs.Push. -/
theorem pushM_any {x : Nat} (h : HS w0 R cb N w v n f) (hx : x < N) (hn : n ≤ 60) :
    Calls Tryd.prog 113 #[.pointer (some ⟨R, 0, none⟩), .iface 3 (.int .i64 (x : Int))] w fun e w' =>
      e = .returned (.tuple #[]) ∧ ∃ v', HS w0 R cb N w' v' (n + 1) (fun k => if k = n then x else f k) ∧ Chg R v.ownBlock w w' ∧ (v'.ownBlock = v.ownBlock ∨ ∃ k, v'.ownBlock = some k ∧ w.heap.size ≤ k) := by
  obtain ⟨i0, hi, hz, hsz, hby⟩ := info_parts intInfo
  have HI := Lib.hid (And.intro hi (And.intro hz (And.intro hsz hby)))
  clear hi hz hsz hby
  obtain ⟨a, cap, rfl⟩ := own_shape h.own
  have c0 := h.c0
  have f0 := h.f0
  have HH := Lib.hid h
  have hsz := h.bl.size
  clear h
  have hta := run_assert_int (x : Int)
  go_enter Tryd.func113, Tryd.ntmps113
  go_wp2_with (at_builtin; refine wpList_append_at _ rfl (.tmp 16) (.tmp 18) 27 rfl w0.heap.size 3 i0 _ 1 8 Tryd.underlying27 HI.out.1 HI.out.2.1 HI.out.2.2.1 HI.out.2.2.2 rfl (by decide) _ n (vals (fun k => ((f k : Nat) : Int)) n) rfl (World.ownsRow.alloc HH.out.own _) ⟨w.heap.size, 0, none⟩ 1 1 [.int .i64 (x : Int)] rfl rfl (news1 _ _ _) (one1 _) (by unfold maxLen; omega) (by omega) (by simp; omega) (by decide) ?_; intro v1 w1 ho1 hg1 hp1 hn1; obtain ⟨a1, cap1, rfl⟩ := own_shape ho1; have HS1 := Lib.hid ((HH.out.below (below_box w (.cells #[.int .i64 (x : Int)] 3))).push ho1 hg1 hp1 hx); have d0 : w1.cell? ⟨R, 0, none⟩ = some (.slice a n cap) := ((World.cell?_of_block (a := ⟨R, 0, none⟩) (hg1.block R (by have := HH.out.R_lt; simp; omega) (fun e => HH.out.ap e.symm))).trans ((HH.out.below (below_box w (.cells #[.int .i64 (x : Int)] 3))).c0)); have d1 : w1.frozen? ⟨R, 0, none⟩ = false := ((World.frozen?_of_block (a := ⟨R, 0, none⟩) (hg1.block R (by have := HH.out.R_lt; simp; omega) (fun e => HH.out.ap e.symm))).trans ((HH.out.below (below_box w (.cells #[.int .i64 (x : Int)] 3))).f0)); have HG := Lib.hid (And.intro hg1 hp1); clear ho1 hg1 hp1 hn1)
  go_end0
  refine ⟨rfl, _, HS1.out, ?_, ?_⟩
  · have h1 : Chg R (Value.slice a n cap).ownBlock w w1 := (Chg.of_below (below_box w (.cells #[.int .i64 (x : Int)] 3))).trans (Chg.of_grown HG.out.1) (fun _ h => .inl h)
    exact h1.setR
  · exact HG.out.2.imp id fun e => ⟨_, e, by simp⟩

set_option maxRecDepth 100000 in
/-- impl.readyJobs.Pop. -/
theorem popM_any {g cap m : Nat} (h : HS w0 R cb N w (.slice (some ⟨g, 0, none⟩) (m + 1) cap) (m + 1) f) (hm : m ≤ 60) :
    Calls Tryd.prog 112 #[.pointer (some ⟨R, 0, none⟩)] w fun e w' =>
      e = .returned (.iface 3 (.int .i64 (f m : Int))) ∧ HS w0 R cb N w' (.slice (some ⟨g, 0, none⟩) m cap) m f ∧ Chg R (some g) w w' := by
  obtain ⟨g', cap', e, _, _, hcap, _, hc⟩ := h.own.at (Nat.succ_pos m)
  simp only [Value.slice.injEq, Option.some.injEq, Addr.mk.injEq, and_true, true_and] at e
  obtain ⟨rfl, rfl⟩ := e
  have c0 := h.c0
  have f0 := h.f0
  have xm := hc m (Nat.lt_succ_self m)
  have HH := Lib.hid h
  clear h hc
  have hm0 : (0 : Int) ≤ m := by omega
  have hm1 : (m : Int) < (m : Int) + 1 := by omega
  go_enter Tryd.func112, Tryd.ntmps112
  go_wp2
  go_ret
  exact ⟨rfl, HH.out.shrink, (Chg.refl R (some g) w).setR⟩

end Go.Proofs.YtdhdodmpfbgliaaDoor

namespace Go.Proofs.YtdhdodmpfbgliaaDoor
open Go.RowKit Go.Deep
variable {w0 w w' : World} {R N n : Nat} {cb v : Value} {f : Nat → Nat}

def rdyV (R : Nat) : Value := .iface 93 (.pointer (some ⟨R, 0, none⟩))

theorem m_less (R : Nat) (w : World) : (method 282 93 (.pointer (some ⟨R, 0, none⟩)) "Less").run Tryd.prog w = .ok (111, .pointer (some ⟨R, 0, none⟩)) w := by kernel_rfl
theorem m_swap (R : Nat) (w : World) : (method 282 93 (.pointer (some ⟨R, 0, none⟩)) "Swap").run Tryd.prog w = .ok (114, .pointer (some ⟨R, 0, none⟩)) w := by kernel_rfl
theorem m_len (R : Nat) (w : World) : (method 282 93 (.pointer (some ⟨R, 0, none⟩)) "Len").run Tryd.prog w = .ok (57, .pointer (some ⟨R, 0, none⟩)) w := by kernel_rfl
theorem m_push (R : Nat) (w : World) : (method 282 93 (.pointer (some ⟨R, 0, none⟩)) "Push").run Tryd.prog w = .ok (113, .pointer (some ⟨R, 0, none⟩)) w := by kernel_rfl
theorem m_pop (R : Nat) (w : World) : (method 282 93 (.pointer (some ⟨R, 0, none⟩)) "Pop").run Tryd.prog w = .ok (112, .pointer (some ⟨R, 0, none⟩)) w := by kernel_rfl
theorem par_quo {k : Nat} (h : 0 < k) : ((k : Int) - 1).tdiv 2 = (par k : Nat) := by
  obtain ⟨q, rfl⟩ : ∃ q, k = q + 1 := ⟨k - 1, by omega⟩
  rw [show ((q + 1 : Nat) : Int) - 1 = (q : Nat) by omega]
  simp [par]

set_option maxRecDepth 100000 in
/-- container/heap.up. -/
theorem up_any {ja : Option Addr} {jcap : Nat} {js : List J4} {K : Nat → Nat} {j : Nat} (hC : Cmp w0 cb ja jcap js K) (h : HS w0 R cb js.length w v n f) (hj : j < n) (hn : n ≤ 61) (hu : UpOk K f n j) :
    Calls Tryd.prog 72 #[rdyV R, .int .i64 (j : Int)] w fun e w' =>
      e = .returned (.tuple #[]) ∧ ∃ f', HS w0 R cb js.length w' v n f' ∧ HeapOk K f' n ∧ Mixed n f f' ∧ Chg R v.ownBlock w w' := by
  obtain ⟨g, cap, rfl, -⟩ := h.own.at (Nat.zero_lt_of_lt hj)
  have HC := Lib.hid hC
  have HH := Lib.hid h
  have HU := Lib.hid hu
  clear hC h hu
  unfold rdyV
  have ml := m_less R
  have ms := m_swap R
  go_enter Tryd.func72, Tryd.ntmps72
  go_wp2
  go_loopg [1] j (fun m s wr => ∃ (k : Nat) (f' : Nat → Nat), m = k ∧ s = .int .i64 k ∧ k < n ∧ HS w0 R cb js.length wr (.slice (some ⟨g, 0, none⟩) n cap) n f' ∧ UpOk K f' n k ∧ Mixed n f f' ∧ Chg R (some g) w wr)
  case atStart => exact ⟨j, f, rfl, rfl, hj, HH.out, HU.out, Mixed.refl _ _, Chg.refl _ _ _⟩
  case round =>
    obtain ⟨k, f', hgk, rfl, hk, hS, hU, hM, hG⟩ := hrel
    have HGK := Lib.hid hgk
    have HS1 := Lib.hid hS
    have HU1 := Lib.hid hU
    have HM1 := Lib.hid hM
    have HG1 := Lib.hid hG
    clear hgk hS hU hM hG HH HU
    by_cases hk0 : k = 0
    · subst hk0
      go_wp2
      go_end0
      exact ⟨rfl, _, HS1.out, HU1.out.done0, HM1.out, HG1.out⟩
    · have hp := par_quo (Nat.pos_of_ne_zero hk0)
      have hpk : par k < k := by unfold par; omega
      obtain ⟨p, hpp⟩ : ∃ p, p = par k := ⟨_, rfl⟩
      rw [← hpp] at hp hpk
      have HP := Lib.hid hpp
      have hb : ((p : Int) == (k : Int)) = false := by simp; omega
      clear hpp hk0
      go_wp2_with fail
      refine (less_any HC.out HS1.out hk (by omega)).mono ?_
      rintro e w1 ⟨rfl, b1⟩
      have HS2 := Lib.hid (HS1.out.below b1)
      have HG2 := Lib.hid (HG1.out.trans (Chg.of_below (g := some g) b1) (fun _ h => .inl h))
      by_cases hlt : K (f' k) < K (f' p)
      · rw [decide_eq_true hlt]
        have HLT := Lib.hid hlt
        clear hlt
        go_wp2_with fail
        refine (swap_any HS2.out (by omega) hk).mono ?_
        rintro e w2 ⟨rfl, h2, g2⟩
        have HS3 := Lib.hid h2
        have HG3 := Lib.hid (HG2.out.trans g2 (fun _ h => .inl h))
        clear h2 g2
        go_wp2
        go_roundg p
        case measure => have := HGK.out; omega
        case rel => exact ⟨p, swp f' p k, rfl, rfl, by omega, HS3.out, by have h := HU1.out.step (by omega) hk (by rw [← HP.out]; exact HLT.out); rwa [← HP.out] at h, HM1.out.trans (Mixed.ofSwp f' (by omega) hk), HG3.out⟩
      · rw [decide_eq_false hlt]
        go_wp2
        go_end0
        exact ⟨rfl, _, HS2.out, HU1.out.done (by rw [← HP.out]; omega), HM1.out, HG2.out⟩

theorem two_le {K f : Nat → Nat} {k c1 c2 c x : Nat} (h : c1 = 2 * k + 1 ∧ c2 = 2 * k + 2) (hp : par c = k) (h0 : 0 < c) (a : x ≤ K (f c1)) (b : x ≤ K (f c2)) : x ≤ K (f c) := by
  rcases par_two hp h0 with e | e
  · rw [e, ← h.1]; exact a
  · rw [e, ← h.2]; exact b
theorem one_le {K f : Nat → Nat} {k c1 c2 c m : Nat} (h : c1 = 2 * k + 1 ∧ c2 = 2 * k + 2) (hp : par c = k) (h0 : 0 < c) (hc : c < m) (hm : m ≤ c2) : K (f c1) ≤ K (f c) := by
  rcases par_two hp h0 with e | e
  · rw [e, ← h.1]; exact Nat.le_refl _
  · omega
def SomeB (e : Ending) : Prop := ∃ b, e = .returned (.bool b)

set_option maxRecDepth 100000 in
set_option maxHeartbeats 2000000 in
/-- container/heap.down from the top, over the first m of m + 1 elements. -/
theorem down_any {ja : Option Addr} {jcap : Nat} {js : List J4} {K : Nat → Nat} {m : Nat} (hC : Cmp w0 cb ja jcap js K) (h : HS w0 R cb js.length w v (m + 1) f) (hn : m ≤ 60) (hd : DownOk K f m 0) :
    Calls Tryd.prog 73 #[rdyV R, .int .i64 0, .int .i64 (m : Int)] w fun e w' =>
      SomeB e ∧ ∃ f', HS w0 R cb js.length w' v (m + 1) f' ∧ HeapOk K f' m ∧ Mixed m f f' ∧ f' m = f m ∧ Chg R v.ownBlock w w' := by
  obtain ⟨g, cap, rfl, -⟩ := h.own.at (Nat.succ_pos m)
  have HC := Lib.hid hC
  have HH := Lib.hid h
  have HU := Lib.hid hd
  clear hC h hd
  unfold rdyV
  have ml := m_less R
  have ms := m_swap R
  go_enter Tryd.func73, Tryd.ntmps73
  go_wp2
  go_loopg [7] m (fun q s wr => ∃ (k : Nat) (f' : Nat → Nat), q + k = m ∧ s = .int .i64 k ∧ HS w0 R cb js.length wr (.slice (some ⟨g, 0, none⟩) (m + 1) cap) (m + 1) f' ∧ DownOk K f' m k ∧ Mixed m f f' ∧ f' m = f m ∧ Chg R (some g) w wr)
  case atStart => exact ⟨0, f, rfl, rfl, HH.out, HU.out, Mixed.refl _ _, rfl, Chg.refl _ _ _⟩
  case round =>
    obtain ⟨k, f', hgk, rfl, hS, hU, hM, hE, hG⟩ := hrel
    have HGK := Lib.hid hgk
    have HS1 := Lib.hid hS
    have HU1 := Lib.hid hU
    have HM1 := Lib.hid (And.intro hM hE)
    have HG1 := Lib.hid hG
    have hk : k ≤ m := by omega
    clear hgk hS hU hM hE hG HH HU
    by_cases h1 : 2 * k + 1 < m
    · have h1' : (2 : Int) * k + 1 < m := by omega
      have h1'' : ¬ (m : Int) ≤ 2 * k + 1 := by omega
      obtain ⟨c1, hc1⟩ : ∃ c, c = 2 * k + 1 := ⟨_, rfl⟩
      obtain ⟨c2, hc2⟩ : ∃ c, c = 2 * k + 2 := ⟨_, rfl⟩
      have HC1 := Lib.hid (And.intro hc1 hc2)
      have E1 := Lib.hid (show (2 : Int) * k + 1 = (c1 : Nat) by omega)
      have E2 := Lib.hid (show (c1 : Int) + 1 = (c2 : Nat) by omega)
      have g1 : c1 < m := by omega
      have g0 : k < c1 := by omega
      have g01 : c1 < c2 := by omega
      by_cases h2 : 2 * k + 2 < m
      · have h2' : (2 : Int) * k + 1 + 1 < m := by omega
        have g2 : c2 < m := by omega
        clear hc1 hc2
        go_wp2_with fail
        rw [E1.out]
        rw [E2.out]
        clear h1' h1'' h2' h1 h2
        refine (less_any HC.out HS1.out (show c2 < m + 1 by omega) (show c1 < m + 1 by omega)).mono ?_
        rintro e w2 ⟨rfl, b2⟩
        have HS2 := Lib.hid (HS1.out.below b2)
        have HG2 := Lib.hid (HG1.out.trans (Chg.of_below (g := some g) b2) (fun _ h => .inl h))
        by_cases hq : K (f' c2) < K (f' c1)
        · rw [decide_eq_true hq]
          have HQ := Lib.hid hq
          clear hq
          go_wp2_with fail
          refine (less_any HC.out HS2.out (show c2 < m + 1 by omega) (show k < m + 1 by omega)).mono ?_
          rintro e w3 ⟨rfl, b3⟩
          have HS3 := Lib.hid (HS2.out.below b3)
          have HG3 := Lib.hid (HG2.out.trans (Chg.of_below (g := some g) b3) (fun _ h => .inl h))
          by_cases hlt : K (f' c2) < K (f' k)
          · rw [decide_eq_true hlt]
            have HLT := Lib.hid hlt
            clear hlt
            go_wp2_with fail
            refine (swap_any HS3.out (show k < m + 1 by omega) (show c2 < m + 1 by omega)).mono ?_
            rintro e w4 ⟨rfl, h4, g4⟩
            have HS4 := Lib.hid h4
            have HG4 := Lib.hid (HG3.out.trans g4 (fun _ h => .inl h))
            clear h4 g4
            go_wp2
            go_roundg (m - c2)
            case measure => have := HGK.out; have := HC1.out; omega
            case rel => exact ⟨c2, swp f' k c2, by omega, rfl, HS4.out, HU1.out.step (show c2 < m by omega) (by rw [HC1.out.2]; exact par_right k) (by have := HC1.out; omega) HLT.out (fun c h0 hc hp => two_le HC1.out hp h0 (Nat.le_of_lt HQ.out) (Nat.le_refl _)), HM1.out.1.trans (Mixed.ofSwp f' (by omega) (by omega)), by rw [swp_other f' (by omega) (by omega)]; exact HM1.out.2, HG4.out⟩
          · rw [decide_eq_false hlt]
            have HLT := Lib.hid hlt
            clear hlt
            go_wp2
            go_ret
            exact ⟨⟨_, rfl⟩, _, HS3.out, HU1.out.done (fun c h0 hc hp => Nat.le_trans (Nat.le_of_not_lt HLT.out) (two_le HC1.out hp h0 (Nat.le_of_lt HQ.out) (Nat.le_refl _))), HM1.out.1, HM1.out.2, HG3.out⟩
        · rw [decide_eq_false hq]
          have HQ := Lib.hid hq
          clear hq
          go_wp2_with fail
          refine (less_any HC.out HS2.out (show c1 < m + 1 by omega) (show k < m + 1 by omega)).mono ?_
          rintro e w3 ⟨rfl, b3⟩
          have HS3 := Lib.hid (HS2.out.below b3)
          have HG3 := Lib.hid (HG2.out.trans (Chg.of_below (g := some g) b3) (fun _ h => .inl h))
          by_cases hlt : K (f' c1) < K (f' k)
          · rw [decide_eq_true hlt]
            have HLT := Lib.hid hlt
            clear hlt
            go_wp2_with fail
            refine (swap_any HS3.out (show k < m + 1 by omega) (show c1 < m + 1 by omega)).mono ?_
            rintro e w4 ⟨rfl, h4, g4⟩
            have HS4 := Lib.hid h4
            have HG4 := Lib.hid (HG3.out.trans g4 (fun _ h => .inl h))
            clear h4 g4
            go_wp2
            go_roundg (m - c1)
            case measure => have := HGK.out; have := HC1.out; omega
            case rel => exact ⟨c1, swp f' k c1, by omega, rfl, HS4.out, HU1.out.step (show c1 < m by omega) (by rw [HC1.out.1]; exact par_left k) (by have := HC1.out; omega) HLT.out (fun c h0 hc hp => two_le HC1.out hp h0 (Nat.le_refl _) (Nat.le_of_not_lt HQ.out)), HM1.out.1.trans (Mixed.ofSwp f' (by omega) (by omega)), by rw [swp_other f' (by omega) (by omega)]; exact HM1.out.2, HG4.out⟩
          · rw [decide_eq_false hlt]
            have HLT := Lib.hid hlt
            clear hlt
            go_wp2
            go_ret
            exact ⟨⟨_, rfl⟩, _, HS3.out, HU1.out.done (fun c h0 hc hp => Nat.le_trans (Nat.le_of_not_lt HLT.out) (two_le HC1.out hp h0 (Nat.le_refl _) (Nat.le_of_not_lt HQ.out))), HM1.out.1, HM1.out.2, HG3.out⟩
      · have h2' : ¬ (2 : Int) * k + 1 + 1 < m := by omega
        have g2 : m ≤ c2 := by omega
        clear hc1 hc2
        go_wp2_with fail
        rw [E1.out]
        clear h1' h1'' h2' h1 h2
        have HS2 := HS1
        have HG2 := HG1
        refine (less_any HC.out HS2.out (show c1 < m + 1 by omega) (show k < m + 1 by omega)).mono ?_
        rintro e w3 ⟨rfl, b3⟩
        have HS3 := Lib.hid (HS2.out.below b3)
        have HG3 := Lib.hid (HG2.out.trans (Chg.of_below (g := some g) b3) (fun _ h => .inl h))
        by_cases hlt : K (f' c1) < K (f' k)
        · rw [decide_eq_true hlt]
          have HLT := Lib.hid hlt
          clear hlt
          go_wp2_with fail
          refine (swap_any HS3.out (show k < m + 1 by omega) (show c1 < m + 1 by omega)).mono ?_
          rintro e w4 ⟨rfl, h4, g4⟩
          have HS4 := Lib.hid h4
          have HG4 := Lib.hid (HG3.out.trans g4 (fun _ h => .inl h))
          clear h4 g4
          go_wp2
          go_roundg (m - c1)
          case measure => have := HGK.out; have := HC1.out; omega
          case rel => exact ⟨c1, swp f' k c1, by omega, rfl, HS4.out, HU1.out.step (show c1 < m by omega) (by rw [HC1.out.1]; exact par_left k) (by have := HC1.out; omega) HLT.out (fun c h0 hc hp => one_le HC1.out hp h0 hc g2), HM1.out.1.trans (Mixed.ofSwp f' (by omega) (by omega)), by rw [swp_other f' (by omega) (by omega)]; exact HM1.out.2, HG4.out⟩
        · rw [decide_eq_false hlt]
          have HLT := Lib.hid hlt
          clear hlt
          go_wp2
          go_ret
          exact ⟨⟨_, rfl⟩, _, HS3.out, HU1.out.done (fun c h0 hc hp => Nat.le_trans (Nat.le_of_not_lt HLT.out) (one_le HC1.out hp h0 hc g2)), HM1.out.1, HM1.out.2, HG3.out⟩
    · have h1' : (m : Int) ≤ 2 * k + 1 := by omega
      go_wp2
      go_ret
      exact ⟨⟨_, rfl⟩, _, HS1.out, HU1.out.leaf (by omega), HM1.out.1, HM1.out.2, HG1.out⟩

end Go.Proofs.YtdhdodmpfbgliaaDoor

namespace Go.Proofs.YtdhdodmpfbgliaaDoor
open Go.RowKit Go.Deep
variable {w0 w w' : World} {R N n : Nat} {cb v : Value} {f : Nat → Nat}

/-- One more at the end. -/
def atEnd (f : Nat → Nat) (n x : Nat) : Nat → Nat := fun k => if k = n then x else f k
theorem upOk_atEnd {K : Nat → Nat} {x : Nat} (h : HeapOk K f n) : UpOk K (atEnd f n x) (n + 1) n :=
  upOk_push fun c c0 hc => by
    have hp : par c < c := by unfold par; omega
    have e1 : atEnd f n x (par c) = f (par c) := if_neg (by omega)
    have e2 : atEnd f n x c = f c := if_neg (by omega)
    rw [e1, e2]
    exact h c c0 hc
def SomeV (e : Ending) : Prop := ∃ v, e = .returned v

set_option maxRecDepth 100000 in
/-- container/heap.Push. -/
theorem heapPush_any {ja : Option Addr} {jcap : Nat} {js : List J4} {K : Nat → Nat} {x : Nat} (hC : Cmp w0 cb ja jcap js K) (h : HS w0 R cb js.length w v n f) (hx : x < js.length) (hn : n ≤ 60) (hk : HeapOk K f n) :
    Calls Tryd.prog 56 #[rdyV R, .iface 3 (.int .i64 (x : Int))] w fun e w' =>
      SomeV e ∧ ∃ v' f', HS w0 R cb js.length w' v' (n + 1) f' ∧ HeapOk K f' (n + 1) ∧ Mixed (n + 1) (atEnd f n x) f' ∧ Chg R v.ownBlock w w' ∧ (v'.ownBlock = v.ownBlock ∨ ∃ k, v'.ownBlock = some k ∧ w.heap.size ≤ k) := by
  have HC := Lib.hid hC
  have HH := Lib.hid h
  have HU := Lib.hid hk
  clear hC h hk
  unfold rdyV
  have mp := m_push R
  have ml := m_len R
  go_enter Tryd.func56, Tryd.ntmps56
  go_wp2_with fail
  refine (pushM_any HH.out hx hn).mono ?_
  rintro e w1 ⟨rfl, v1, h1, g1, p1⟩
  have HS1 := Lib.hid h1
  have HG1 := Lib.hid (And.intro g1 p1)
  clear h1 g1 p1
  go_wp2_with fail
  refine (len_any HS1.out).mono ?_
  rintro e w2 ⟨rfl, rfl⟩
  have e0 : ((n + 1 : Nat) : Int) - 1 = (n : Nat) := by omega
  go_wp2_with fail
  refine (up_any HC.out HS1.out (Nat.lt_succ_self n) (by omega) (upOk_atEnd HU.out)).mono ?_
  rintro e w3 ⟨rfl, f3, h3, k3, m3, g3⟩
  have HS3 := Lib.hid (And.intro h3 (And.intro k3 m3))
  have HG3 := Lib.hid (HG1.out.1.trans g3 (fun x hx => (HG1.out.2).imp (fun e => by rw [← e]; exact hx) (fun ⟨k, e, hk⟩ => by rw [e] at hx; cases hx; exact hk)))
  clear h3 k3 m3 g3
  go_wp2
  go_end0
  exact ⟨⟨_, rfl⟩, _, _, HS3.out.1, HS3.out.2.1, HS3.out.2.2, HG3.out, HG1.out.2⟩

set_option maxRecDepth 100000 in
/-- container/heap.Pop. -/
theorem heapPop_any {ja : Option Addr} {jcap : Nat} {js : List J4} {K : Nat → Nat} {m : Nat} (hC : Cmp w0 cb ja jcap js K) (h : HS w0 R cb js.length w v (m + 1) f) (hn : m ≤ 60) (hk : HeapOk K f (m + 1)) :
    Calls Tryd.prog 59 #[rdyV R] w fun e w' =>
      SomeV e ∧ ∃ v' f', HS w0 R cb js.length w' v' m f' ∧ HeapOk K f' m ∧ Mixed m (swp f 0 m) f' ∧ Chg R v.ownBlock w w' ∧ v'.ownBlock = v.ownBlock := by
  obtain ⟨g, cap, rfl, -⟩ := h.own.at (Nat.succ_pos m)
  have HC := Lib.hid hC
  have HH := Lib.hid h
  have HU := Lib.hid hk
  clear hC h hk
  unfold rdyV
  have ms := m_swap R
  have ml := m_len R
  have mp := m_pop R
  go_enter Tryd.func59, Tryd.ntmps59
  go_wp2_with fail
  refine (len_any HH.out).mono ?_
  rintro e w1 ⟨rfl, rfl⟩
  have e0 : ((m + 1 : Nat) : Int) - 1 = (m : Nat) := by omega
  go_wp2_with fail
  refine (swap_any (i := 0) (j := m) HH.out (Nat.succ_pos m) (Nat.lt_succ_self m)).mono ?_
  rintro e w2 ⟨rfl, h2, g2⟩
  have HS2 := Lib.hid h2
  have HG2 := Lib.hid g2
  clear h2 g2
  go_wp2_with fail
  refine (down_any HC.out HS2.out hn (downOk_start HU.out)).mono ?_
  rintro e w3 ⟨⟨b, rfl⟩, f3, h3, k3, m3, e3, g3⟩
  have HS3 := Lib.hid h3
  have HK3 := Lib.hid (And.intro k3 m3)
  have HG3 := Lib.hid (HG2.out.trans g3 (fun _ h => .inl h))
  clear h3 k3 m3 e3 g3
  go_wp2_with fail
  refine (popM_any HS3.out hn).mono ?_
  rintro e w4 ⟨rfl, h4, g4⟩
  have HS4 := Lib.hid h4
  have HG4 := Lib.hid (HG3.out.trans g4 (fun _ h => .inl h))
  clear h4 g4
  go_wp2
  go_ret
  exact ⟨⟨_, rfl⟩, _, _, HS4.out, HK3.out.1, HK3.out.2, HG4.out, rfl⟩

end Go.Proofs.YtdhdodmpfbgliaaDoor
