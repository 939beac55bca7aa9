/- The heap of ready jobs in memory, and the methods of impl.readyJobs: Len, first, Less, Swap, Push, Pop. Conditions: the cells hold what is said; at most 60 jobs. -/
import Derived.Test.YtlagghoohloklaaCmpImpl
import Derived.Test.YtlagghoohloklaaPlain
import Derived.BigRegion
namespace Go.Proofs.Ytlagghoohloklaa
open Go.RowKit Go.Deep

/-- Only block R and the block of a slice may have turned. -/
structure Chg (R : Nat) (g : Option Nat) (w w' : World) : Prop where
  os : w'.os = w.os
  tape : w'.tape = w.tape
  output : w'.output = w.output
  size : w.heap.size ≤ w'.heap.size
  block : ∀ k, k < w.heap.size → k ≠ R → some k ≠ g → w'.heap[k]? = w.heap[k]?
theorem Chg.refl (R : Nat) (g : Option Nat) (w : World) : Chg R g w w := ⟨rfl, rfl, rfl, Nat.le_refl _, fun _ _ _ _ => rfl⟩
theorem Chg.of_below {R : Nat} {g : Option Nat} {w w' : World} (h : Below w.heap.size w w') : Chg R g w w' := ⟨h.os, h.tape, h.output, h.size, fun k hk _ _ => h.block k hk⟩
theorem Chg.trans {R : Nat} {g g' : Option Nat} {a b c : World} (h : Chg R g a b) (k : Chg R g' b c) (hg : ∀ x, g' = some x → g = some x ∨ a.heap.size ≤ x) : Chg R g a c :=
  ⟨k.os.trans h.os, k.tape.trans h.tape, k.output.trans h.output, Nat.le_trans h.size k.size, fun i hi h1 h2 =>
    (k.block i (Nat.lt_of_lt_of_le hi h.size) h1 (fun e => (hg i e.symm).elim (fun e' => h2 e'.symm) (fun e' => by omega))).trans (h.block i hi h1 h2)⟩
theorem Chg.setCell {R : Nat} {g : Option Nat} {w w' : World} {p : Addr} (h : Chg R g w w') (hp : p.block = R ∨ some p.block = g) (x : Value) : Chg R g w (w'.setCell p x) :=
  ⟨h.os, h.tape, h.output, Nat.le_trans h.size (by simp [World.setCell]), fun k hk h1 h2 => (Below.heap_setCell w' p x k (by rintro rfl; exact hp.elim h1 h2)).trans (h.block k hk h1 h2)⟩
theorem Chg.below {R B : Nat} {g : Option Nat} {w w' : World} (h : Chg R g w w') (hR : B ≤ R) (hg : ∀ x, g = some x → B ≤ x) (hB : B ≤ w.heap.size) : Below B w w' :=
  ⟨h.os, h.tape, h.output, h.size, fun k hk => h.block k (by omega) (by omega) (fun e => by have := hg k e.symm; omega)⟩
theorem Chg.cell {R : Nat} {g : Option Nat} {w w' : World} (h : Chg R g w w') {p : Addr} (hp : p.block < w.heap.size) (h1 : p.block ≠ R) (h2 : some p.block ≠ g) : w'.cell? p = w.cell? p ∧ w'.frozen? p = w.frozen? p :=
  ⟨World.cell?_of_block (h.block _ hp h1 h2), World.frozen?_of_block (h.block _ hp h1 h2)⟩
theorem OwnI.of_block {w w' : World} {base : Nat} {v : Value} {n : Nat} {f : Nat → Int} (h : OwnI w base v n f) (e : ∀ k, v.ownBlock = some k → w'.heap[k]? = w.heap[k]?) : OwnI w' base v n f := by
  obtain ⟨h1, h2 | ⟨g, cap, cur, rfl, h3, h4, h5⟩⟩ := h
  · exact ⟨h1, .inl h2⟩
  · exact ⟨h1, .inr ⟨g, cap, cur, rfl, h3, (e g rfl).trans h4, h5⟩⟩
theorem OwnI.chg {w w' : World} {base R : Nat} {g : Option Nat} {v : Value} {n : Nat} {f : Nat → Int} (h : OwnI w base v n f) (hc : Chg R g w w') (h1 : v.ownBlock ≠ some R) (h2 : ∀ k, v.ownBlock = some k → g ≠ some k) : OwnI w' base v n f :=
  h.of_block fun k hk => hc.block k (h.lt k hk).2 (fun e => h1 (e ▸ hk)) (fun e => h2 k hk e.symm)

/-- What the comparison of jobs is: a closure of impl.RunEdf or of impl.RunFixed; K orders as it does. -/
structure Cmp (w0 : World) (cb : Value) (ja : Option Addr) (jcap : Nat) (js : List J4) (K : Nat → Nat) : Prop where
  row : RowJ w0 ja js
  call : (∃ c, cb = .func (.func 108) #[] #[.pointer (some ⟨c, 0, none⟩)] ∧ ∀ (W : World) (x y : Nat), Below w0.heap.size w0 W → x < js.length → y < js.length →
      Calls Try.prog 108 #[.int .i64 (x : Int), .int .i64 (y : Int), .pointer (some ⟨c, 0, none⟩)] W fun e w' => e = .returned (.bool (decide (K x < K y))) ∧ Below W.heap.size W w') ∨
    (∃ c d, cb = .func (.func 66) #[] #[.pointer (some ⟨c, 0, none⟩), .pointer (some ⟨d, 0, none⟩)] ∧ ∀ (W : World) (x y : Nat), Below w0.heap.size w0 W → x < js.length → y < js.length →
      Calls Try.prog 66 #[.int .i64 (x : Int), .int .i64 (y : Int), .pointer (some ⟨c, 0, none⟩), .pointer (some ⟨d, 0, none⟩)] W fun e w' => e = .returned (.bool (decide (K x < K y))) ∧ Below W.heap.size W w')
def befV (cb : Value) : Value := cb
theorem Cmp.shape {w0 : World} {cb : Value} {ja : Option Addr} {jcap : Nat} {js : List J4} {K : Nat → Nat} (h : Cmp w0 cb ja jcap js K) : ∃ g xs, cb = .func (.func g) #[] xs := by
  rcases h.call with ⟨c, e, _⟩ | h2
  · exact ⟨_, _, e⟩
  · obtain ⟨c, d, e, _⟩ := h2
    exact ⟨_, _, e⟩
/-- The heap in block R: n indices, f in order. -/
structure HS (w0 : World) (R : Nat) (cb : Value) (N : Nat) (w : World) (v : Value) (n : Nat) (f : Nat → Nat) : Prop where
  bl : Below w0.heap.size w0 w
  ge : w0.heap.size ≤ R
  c0 : w.cell? ⟨R, 0, none⟩ = some v
  c1 : w.cell? ⟨R, 1, none⟩ = some (befV cb)
  f0 : w.frozen? ⟨R, 0, none⟩ = false
  own : OwnI w w0.heap.size v n (fun k => ((f k : Nat) : Int))
  ap : v.ownBlock ≠ some R
  lt : ∀ k, k < n → f k < N
variable {w0 w w' : World} {R N n : Nat} {cb v : Value} {f : Nat → Nat}
theorem HS.R_lt (h : HS w0 R cb N w v n f) : R < w.heap.size := World.block_lt_of_cell? w ⟨R, 0, none⟩ h.c0
theorem HS.below (h : HS w0 R cb N w v n f) (hb : Below w.heap.size w w') : HS w0 R cb N w' v n f := by
  have hR := h.R_lt
  exact ⟨h.bl.trans (hb.mono h.bl.size), h.ge, (hb.cell (p := ⟨R, 0, none⟩) hR).trans h.c0, (hb.cell (p := ⟨R, 1, none⟩) hR).trans h.c1, (hb.frozen (p := ⟨R, 0, none⟩) hR).trans h.f0, h.own.below hb, h.ap, h.lt⟩
/-- What turns blocks from w0's end on, but neither R nor the slice's block, leaves the heap as it is. -/
theorem HS.other (h : HS w0 R cb N w v n f) {a : Addr} (x : Value) (h0 : w0.heap.size ≤ a.block) (h1 : a.block ≠ R) (h2 : v.ownBlock ≠ some a.block) : HS w0 R cb N (w.setCell a x) v n f := by
  have e : ∀ k, k ≠ a.block → (w.setCell a x).heap[k]? = w.heap[k]? := fun k hk => Below.heap_setCell w a x k hk
  have eR := e R (Ne.symm h1)
  exact ⟨h.bl.setCell h0 x, h.ge, (World.cell?_of_block (a := ⟨R, 0, none⟩) eR).trans h.c0, (World.cell?_of_block (a := ⟨R, 1, none⟩) eR).trans h.c1, (World.frozen?_of_block (a := ⟨R, 0, none⟩) eR).trans h.f0, h.own.other h2, h.ap, h.lt⟩
theorem HS.swap {g cap i j : Nat} (h : HS w0 R cb N w (.slice (some ⟨g, 0, none⟩) n cap) n f) (hi : i < n) (hj : j < n) :
    HS w0 R cb N ((w.setCell ⟨g, i, none⟩ (.int .i64 (f j : Int))).setCell ⟨g, j, none⟩ (.int .i64 (f i : Int))) (.slice (some ⟨g, 0, none⟩) n cap) n (swp f i j) := by
  have hg := (h.own.lt g rfl).1
  have hne : R ≠ g := fun e => h.ap (by rw [e]; rfl)
  have e : ∀ k, k ≠ g → ((w.setCell ⟨g, i, none⟩ (.int .i64 (f j : Int))).setCell ⟨g, j, none⟩ (.int .i64 (f i : Int))).heap[k]? = w.heap[k]? := fun k hk =>
    (Below.heap_setCell _ _ _ k hk).trans (Below.heap_setCell _ _ _ k hk)
  refine ⟨(h.bl.setCell hg _).setCell hg _, h.ge, (World.cell?_of_block (a := ⟨R, 0, none⟩) (e R hne)).trans h.c0, (World.cell?_of_block (a := ⟨R, 1, none⟩) (e R hne)).trans h.c1, (World.frozen?_of_block (a := ⟨R, 0, none⟩) (e R hne)).trans h.f0, ?_, h.ap, fun k hk => ?_⟩
  · exact ((h.own.set hi (f j : Int)).set hj (f i : Int)).congr fun k _ => by
      unfold swp
      by_cases h1 : k = j
      · rw [if_pos h1, if_pos h1]
      · by_cases h2 : k = i
        · rw [if_neg h1, if_neg h1, if_pos h2, if_pos h2]
        · rw [if_neg h1, if_neg h1, if_neg h2, if_neg h2]
  · unfold swp
    split
    · exact h.lt i hi
    · split
      · exact h.lt j hj
      · exact h.lt k hk

/-- impl.readyJobs.Len. -/
theorem len_any (h : HS w0 R cb N w v n f) :
    Calls Try.prog 92 #[.pointer (some ⟨R, 0, none⟩)] w fun e w' => e = .returned (.int .i64 (n : Int)) ∧ w = w' := by
  obtain ⟨a, cap, rfl⟩ := own_shape h.own
  have c0 := h.c0
  clear h
  go_enter Try.func92, Try.ntmps92
  go_wp2
  go_ret
  exact ⟨rfl, rfl⟩

/-- impl.readyJobs.first. -/
theorem first_any (h : HS w0 R cb N w v n f) (hn : 0 < n) :
    Calls Try.prog 94 #[.pointer (some ⟨R, 0, none⟩)] w fun e w' => e = .returned (.int .i64 (f 0 : Int)) ∧ w = w' := by
  obtain ⟨g, cap, rfl, _, _, _, _, hc⟩ := h.own.at hn
  have c0 := h.c0
  have x0 := hc 0 hn
  clear h hc
  have hn' : (0 : Int) < n := by omega
  go_enter Try.func94, Try.ntmps94
  go_wp2
  go_ret
  exact ⟨rfl, rfl⟩

set_option maxRecDepth 100000 in
/-- impl.readyJobs.Less. -/
theorem less_any {ja : Option Addr} {jcap : Nat} {js : List J4} {K : Nat → Nat} {i j : Nat} (hC : Cmp w0 cb ja jcap js K) (h : HS w0 R cb js.length w v n f) (hi : i < n) (hj : j < n) :
    Calls Try.prog 154 #[.pointer (some ⟨R, 0, none⟩), .int .i64 (i : Int), .int .i64 (j : Int)] w fun e w' =>
      e = .returned (.bool (decide (K (f i) < K (f j)))) ∧ Below w.heap.size w w' := by
  obtain ⟨g, cap, rfl, _, _, _, _, hc⟩ := h.own.at (Nat.zero_lt_of_lt hi)
  have c0 := h.c0
  have c1 := h.c1
  have xi := hc i hi
  have xj := hc j hj
  have HL := Lib.hid (And.intro (h.lt i hi) (h.lt j hj))
  have HB := Lib.hid (show Below w0.heap.size w0 w.drew from h.bl.drew)
  obtain ⟨x, hx⟩ : ∃ x, x = f i := ⟨_, rfl⟩
  obtain ⟨y, hy⟩ : ∃ y, y = f j := ⟨_, rfl⟩
  rw [← hx] at xi HL ⊢
  rw [← hy] at xj HL ⊢
  have hcall := hC.call
  clear h hc hC hx hy
  have hi0 : (0 : Int) ≤ i := by omega
  have hi1 : (i : Int) < n := by omega
  have hj0 : (0 : Int) ≤ j := by omega
  have hj1 : (j : Int) < n := by omega
  unfold befV at c1
  rcases hcall with ⟨cc, rfl, hcc⟩ | h2
  · have HC := Lib.hid (hcc w.drew x y HB.out HL.out.1 HL.out.2)
    clear hcc
    go_enter Try.func154, Try.ntmps154
    go_wp2
    refine wp_region_still_tail 18 (by kernel_rfl) (by kernel_rfl) ?_
    simp only [List.take_succ_cons, List.take_zero, List.drop_succ_cons, List.drop_zero]
    change wpStill _ _ w.drew (fun a' => wpList _ _ _ _ a' w.drew) _ _
    iterate 18 still_step
    refine wpStill_nil ?_
    go_wp2_with fail
    refine HC.out.mono ?_
    rintro e w1 ⟨rfl, b1⟩
    go_wp2
    go_ret
    exact ⟨rfl, (Below.refl w.heap.size w).drew.trans b1⟩
  · obtain ⟨cc, cd, rfl, hcc⟩ := h2
    have HC := Lib.hid (hcc w.drew x y HB.out HL.out.1 HL.out.2)
    clear hcc
    go_enter Try.func154, Try.ntmps154
    go_wp2
    refine wp_region_still_tail 18 (by kernel_rfl) (by kernel_rfl) ?_
    simp only [List.take_succ_cons, List.take_zero, List.drop_succ_cons, List.drop_zero]
    change wpStill _ _ w.drew (fun a' => wpList _ _ _ _ a' w.drew) _ _
    iterate 18 still_step
    refine wpStill_nil ?_
    go_wp2_with fail
    refine HC.out.mono ?_
    rintro e w1 ⟨rfl, b1⟩
    go_wp2
    go_ret
    exact ⟨rfl, (Below.refl w.heap.size w).drew.trans b1⟩

set_option maxRecDepth 100000 in
set_option maxHeartbeats 2000000 in
/-- impl.readyJobs.Swap. -/
theorem swap_any {g cap i j : Nat} (h : HS w0 R cb N w (.slice (some ⟨g, 0, none⟩) n cap) n f) (hi : i < n) (hj : j < n) :
    Calls Try.prog 157 #[.pointer (some ⟨R, 0, none⟩), .int .i64 (i : Int), .int .i64 (j : Int)] w fun e w' =>
      e = .returned (.tuple #[]) ∧ HS w0 R cb N w' (.slice (some ⟨g, 0, none⟩) n cap) n (swp f i j) ∧ Chg R (some g) w w' := by
  obtain ⟨g', cap', e, _, _, _, hz, hc⟩ := h.own.at (Nat.zero_lt_of_lt hi)
  simp only [Value.slice.injEq, Option.some.injEq, Addr.mk.injEq, and_true, true_and] at e
  obtain ⟨rfl, rfl⟩ := e
  have c0 := h.c0
  have xi := hc i hi
  have xj := hc j hj
  have zi := hz i
  have zj := hz j
  have HH := Lib.hid h
  have hne : R ≠ g := fun e => h.ap (by rw [e]; rfl)
  clear h hc hz
  have hi0 : (0 : Int) ≤ i := by omega
  have hi1 : (i : Int) < n := by omega
  have hj0 : (0 : Int) ≤ j := by omega
  have hj1 : (j : Int) < n := by omega
  have xs : (w.setCell ⟨g, i, none⟩ (.int .i64 (f j : Int))).cell? ⟨g, j, none⟩ = some (.int .i64 (f j : Int)) := by
    have h2 := (HH.out.own.set hi (f j : Int)).cellAt hj
    rw [h2.1]
    split <;> rfl
  go_enter Try.func157, Try.ntmps157
  go_wp2
  go_region
  go_end0
  exact ⟨rfl, (HH.out.swap hi hj).below (Below.refl _ _).drew, ((((Chg.refl R (some g) w).setCell (.inr rfl) _).setCell (.inr rfl) _)).trans (Chg.of_below (g := some g) (Below.refl _ _).drew) (fun _ h => .inl h)⟩

end Go.Proofs.Ytlagghoohloklaa
