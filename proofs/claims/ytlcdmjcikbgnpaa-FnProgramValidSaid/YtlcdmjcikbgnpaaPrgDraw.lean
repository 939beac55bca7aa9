/- Contracts of spec.l20Prog and the draws of chapter 8. What is drawn is not told, only its bounds. Condition: the reader of the code's bytes lies where it is said. -/
import Derived.Test.YtlcdmjcikbgnpaaPrgVal
namespace Go.Proofs.Ytlcdmjcikbgnpaa
open Go.RowKit Go.Deep

theorem OwnN.rowOf {w : World} {base : Nat} {a : Option Addr} {n cap : Nat} {ps : List N5} (h : OwnN w base (.slice a n cap) ps) : RowN w a ps := by
  obtain ⟨a', c', e, hr, _⟩ := h.row
  simp only [Value.slice.injEq] at e
  rw [e.1]
  exact hr
/-- A slice of nodes that a function has grown by itself, while it reads the code's bytes. -/
structure NP (rb : Nat) (w wr : World) (q : Nat) (s : Value) (ps : List N5) : Prop where
  gb : w.grownBy wr (some rb)
  rd : Rd wr rb q
  ow : OwnN wr w.heap.size s ps
  rl : rb < w.heap.size
theorem NP.pick {rb q q' : Nat} {w wr w' : World} {s : Value} {ps : List N5} (h : NP rb w wr q s ps) (hg : wr.grownBy w' (some rb)) (hr : Rd w' rb q') : NP rb w w' q' s ps :=
  ⟨gb_trans h.gb hg, hr, World.ownsRow.kept h.ow hg (by
    cases e : s.ownBlock with
    | none => exact .inl rfl
    | some k => exact .inr (fun h2 => by have := (h.ow.lt k e).1; have := h.rl; simp only [Option.some.injEq] at h2; omega)), h.rl⟩
theorem NP.more {rb q q' : Nat} {w wr : World} {s : Value} {ps : List N5} (h : NP rb w wr q s ps) (hq : q ≤ q') : NP rb w wr q' s ps := { h with rd := h.rd.mono hq }
theorem NP.below {rb q : Nat} {w wr w' : World} {s : Value} {ps : List N5} (h : NP rb w wr q s ps) (hb : Below wr.heap.size wr w') : NP rb w w' q s ps := h.pick (gb_below hb) (h.rd.below hb)
theorem NP.alloc {rb q : Nat} {w wr : World} {s : Value} {ps : List N5} (h : NP rb w wr q s ps) (x : Obj) : NP rb w (wr.alloc x) q s ps := h.below (below_box _ _)
theorem NP.turn {rb q : Nat} {w wr w' : World} {s : Value} {ps : List N5} (h : NP rb w wr q s ps) (hg : wr.grownBy w' s.ownBlock) : w.grownBy w' (some rb) ∧ Rd w' rb q := by
  have hl := h.rl
  have hs := h.gb.size
  have hr : ∀ k, s.ownBlock = some k → w.heap.size ≤ k := fun k hk => (h.ow.lt k hk).1
  refine ⟨⟨hg.os.trans h.gb.os, hg.tape.trans h.gb.tape, hg.output.trans h.gb.output, Nat.le_trans hs hg.size, fun k hk hne => ?_⟩, h.rd.kept hg.size fun i hi => hg.block i (by omega) fun e => by have := hr i e.symm; omega⟩
  exact (hg.block k (by omega) fun e => by have := hr k e.symm; omega).trans (h.gb.block k hk hne)
theorem NP.push {rb t : Nat} {w wr w' : World} {s v' : Value} {ps : List N5} {q c a b m : Int} (h : NP rb w wr t s ps) (ho : w'.ownsRow w.heap.size 28 5 v' (ps.length + 1) (flatN ps ++ [.int .i64 q, .int .i64 c, .int .i64 a, .int .i64 b, .int .i64 m])) (hg : wr.grownBy w' s.ownBlock) :
    NP rb w w' t v' (ps ++ [(q, c, a, b, m)]) := by
  obtain ⟨h1, h2⟩ := h.turn hg
  exact ⟨h1, h2, OwnN.push ho, h.rl⟩

theorem NP.setN {rb t g gc k c : Nat} {w wr : World} {ps : List N5} (h : NP rb w wr t (.slice (some ⟨g, 0, none⟩) ps.length gc) ps) (hk : k < ps.length) (hc : c < 5) (x : Int) :
    NP rb w (wr.setCell ⟨g, k * 5 + c, none⟩ (.int .i64 x)) t (.slice (some ⟨g, 0, none⟩) ps.length gc) (ps.set k (turnN (nd8 ps k) c x)) := by
  have hg := h.ow.lt g rfl
  exact ⟨gb_set h.gb (.inr hg.1) _, h.rd.set (by have := h.rl; simp; omega) _, h.ow.set hk hc x, h.rl⟩
theorem NP.cellsN {rb t g n gc k : Nat} {w wr : World} {ps : List N5} (h : NP rb w wr t (.slice (some ⟨g, 0, none⟩) n gc) ps) (hk : k < ps.length) :
    wr.cell? ⟨g, k * 5, none⟩ = some (.int .i64 (nd8 ps k).1) ∧ wr.cell? ⟨g, k * 5 + 1, none⟩ = some (.int .i64 (nd8 ps k).2.1) ∧ ∀ j, wr.frozen? ⟨g, j, none⟩ = false := by
  obtain ⟨b', off', e', -, c0, c1, -, -, -⟩ := rowN_at (OwnN.rowOf h.ow) hk rfl
  simp only [Option.some.injEq, Addr.mk.injEq, and_true] at e'
  obtain ⟨rfl, rfl⟩ := e'
  rw [Nat.zero_add] at c0 c1
  obtain ⟨g9, gc9, e9, -, -, -, hfz⟩ := h.ow.at (by omega)
  simp only [Value.slice.injEq, Option.some.injEq, Addr.mk.injEq, and_true] at e9
  obtain ⟨rfl, -⟩ := e9
  exact ⟨c0, c1, hfz⟩
/-- With a box that holds one node besides. -/
structure NX (rb : Nat) (w wr : World) (t : Nat) (s : Value) (ps : List N5) (X : Nat) (q c a b m : Int) : Prop where
  np : NP rb w wr t s ps
  lo : w.heap.size ≤ X
  hi : X < wr.heap.size
  ap : s.ownBlock ≠ some X
  c0 : wr.cell? ⟨X, 0, none⟩ = some (.int .i64 q)
  c1 : wr.cell? ⟨X, 1, none⟩ = some (.int .i64 c)
  c2 : wr.cell? ⟨X, 2, none⟩ = some (.int .i64 a)
  c3 : wr.cell? ⟨X, 3, none⟩ = some (.int .i64 b)
  c4 : wr.cell? ⟨X, 4, none⟩ = some (.int .i64 m)
  fz : ∀ k, wr.frozen? ⟨X, k, none⟩ = false
theorem NX.start {rb t : Nat} {w wr : World} {s : Value} {ps : List N5} (h : NP rb w wr t s ps) (q : Int) : NX rb w (wr.alloc (.cells #[.int .i64 q, .int .i64 0, .int .i64 0, .int .i64 0, .int .i64 0] 28)) t s ps wr.heap.size q 0 0 0 0 :=
  ⟨h.alloc _, h.gb.size, by simp, fun e => by have := (h.ow.lt _ e).2; omega, by go_simp, by go_simp, by go_simp, by go_simp, by go_simp, fun k => by simp [go_sem]⟩
theorem NX.pick {rb t t' : Nat} {w wr w' : World} {s : Value} {ps : List N5} {X : Nat} {q c a b m : Int} (h : NX rb w wr t s ps X q c a b m) (hg : wr.grownBy w' (some rb)) (hr : Rd w' rb t') : NX rb w w' t' s ps X q c a b m := by
  have hne : X ≠ rb := by have := h.lo; have := h.np.rl; omega
  have hk := hg.block X h.hi (fun e => hne (by simpa using e))
  exact ⟨h.np.pick hg hr, h.lo, Nat.lt_of_lt_of_le h.hi hg.size, h.ap, (World.cell?_of_block (w := wr) (a := ⟨X, 0, none⟩) hk).trans h.c0, (World.cell?_of_block (w := wr) (a := ⟨X, 1, none⟩) hk).trans h.c1,
    (World.cell?_of_block (w := wr) (a := ⟨X, 2, none⟩) hk).trans h.c2, (World.cell?_of_block (w := wr) (a := ⟨X, 3, none⟩) hk).trans h.c3, (World.cell?_of_block (w := wr) (a := ⟨X, 4, none⟩) hk).trans h.c4,
    fun k => (World.frozen?_of_block (w := wr) (a := ⟨X, k, none⟩) hk).trans (h.fz k)⟩
theorem NP.setX {rb t X k : Nat} {w wr : World} {s : Value} {ps : List N5} (h : NP rb w wr t s ps) (hlo : w.heap.size ≤ X) (hap : s.ownBlock ≠ some X) (x : Value) : NP rb w (wr.setCell ⟨X, k, none⟩ x) t s ps :=
  ⟨gb_set h.gb (.inr hlo) _, h.rd.set (by have := h.rl; simp; omega) _, ownsRow_setCell_other h.ow hap x, h.rl⟩
theorem NX.set1 {rb t : Nat} {w wr : World} {s : Value} {ps : List N5} {X : Nat} {q c a b m : Int} (h : NX rb w wr t s ps X q c a b m) (x : Int) : NX rb w (wr.setCell ⟨X, 1, none⟩ (.int .i64 x)) t s ps X q x a b m := by
  obtain ⟨h1, h2, h3, h4, c0, c1, c2, c3, c4, fz⟩ := h
  exact ⟨h1.setX h2 h4 _, h2, by simpa [World.setCell] using h3, h4, by go_simp, by go_simp, by go_simp, by go_simp, by go_simp, fun k => by simp [go_sem, fz]⟩
theorem NX.set2 {rb t : Nat} {w wr : World} {s : Value} {ps : List N5} {X : Nat} {q c a b m : Int} (h : NX rb w wr t s ps X q c a b m) (x : Int) : NX rb w (wr.setCell ⟨X, 2, none⟩ (.int .i64 x)) t s ps X q c x b m := by
  obtain ⟨h1, h2, h3, h4, c0, c1, c2, c3, c4, fz⟩ := h
  exact ⟨h1.setX h2 h4 _, h2, by simpa [World.setCell] using h3, h4, by go_simp, by go_simp, by go_simp, by go_simp, by go_simp, fun k => by simp [go_sem, fz]⟩
theorem NX.set3 {rb t : Nat} {w wr : World} {s : Value} {ps : List N5} {X : Nat} {q c a b m : Int} (h : NX rb w wr t s ps X q c a b m) (x : Int) : NX rb w (wr.setCell ⟨X, 3, none⟩ (.int .i64 x)) t s ps X q c a x m := by
  obtain ⟨h1, h2, h3, h4, c0, c1, c2, c3, c4, fz⟩ := h
  exact ⟨h1.setX h2 h4 _, h2, by simpa [World.setCell] using h3, h4, by go_simp, by go_simp, by go_simp, by go_simp, by go_simp, fun k => by simp [go_sem, fz]⟩
theorem NX.set4 {rb t : Nat} {w wr : World} {s : Value} {ps : List N5} {X : Nat} {q c a b m : Int} (h : NX rb w wr t s ps X q c a b m) (x : Int) : NX rb w (wr.setCell ⟨X, 4, none⟩ (.int .i64 x)) t s ps X q c a b x := by
  obtain ⟨h1, h2, h3, h4, c0, c1, c2, c3, c4, fz⟩ := h
  exact ⟨h1.setX h2 h4 _, h2, by simpa [World.setCell] using h3, h4, by go_simp, by go_simp, by go_simp, by go_simp, by go_simp, fun k => by simp [go_sem, fz]⟩

set_option maxRecDepth 100000 in
set_option maxHeartbeats 4000000 in
/-- spec.l20Prog. -/
theorem l20Prog_any (rb p : Nat) (n : Int) (w : World) (hr : Rd w rb p) (hp : p ≤ 700000000) :
    Calls Try.prog 37 #[.pointer (some ⟨rb, 0, none⟩), .int .i64 n] w fun e w' => ∃ s ps, e = .returned s ∧ NP rb w w' (p + 60) s ps ∧ ps.length ≤ 13 := by
  have hlt := hr.lt
  have HR := Lib.hid hr
  clear hr
  go_enter Try.func37, Try.ntmps37
  go_wp2_with fail
  refine (pick_any rb p 9 _ HR.out (by omega)).mono ?_
  rintro e w1 ⟨u, rfl, u0, u1, -, hg1, hr1⟩
  have hu1 : u < 9 := u1 (by omega)
  have T1 := Lib.hid (show NP rb w (w1.alloc (.cells #[.int .i64 1, .int .i64 (1 + u), .int .i64 0, .int .i64 0, .int .i64 0] 28)) (p + 1) (.slice (some ⟨w1.heap.size, 0, none⟩) 1 1) [(1, 1 + u, 0, 0, 0)] from
    ⟨gb_trans hg1 (gb_below (below_box _ _)), hr1.alloc _, (OwnN.one w1 1 (1 + u) 0 0 0).mono hg1.size, hlt⟩)
  clear hg1 hr1 u1
  go_wp2_with fail
  refine (pick_any rb (p + 1) 12 _ T1.out.rd (by omega)).mono ?_
  rintro e w2 ⟨v, rfl, v0, v1, -, hg2, hr2⟩
  obtain ⟨K, rfl⟩ : ∃ K : Nat, v = K := ⟨v.toNat, (Int.toNat_of_nonneg v0).symm⟩
  have hK : K ≤ 11 := by have := v1 (by omega); omega
  have T2 := Lib.hid (T1.out.pick hg2 hr2)
  clear hg2 hr2 v1 T1
  obtain ⟨i0, hi, hz, hsz, hby⟩ := info_parts nodeInfo
  have HI := Lib.hid (And.intro hi (And.intro hz (And.intro hsz hby)))
  clear hi hz hsz hby
  go_wp2_with fail
  go_loopg [5, 6] K (fun q s z wr => ∃ rest : List N5, z = .int .i64 (q : Nat) ∧ q + rest.length = K ∧ NP rb w wr (p + 2 + rest.length * 4) s ((1, 1 + u, 0, 0, 0) :: rest))
  case atStart => exact ⟨[], rfl, rfl, T2.out.more (by omega)⟩
  case round =>
    obtain ⟨rest, rfl, hq, hT⟩ := hrel
    have HQ := Lib.hid hq
    have T := Lib.hid hT
    have hgk : gk ≤ 11 := by omega
    have hrl : rest.length ≤ 11 := by omega
    obtain ⟨sa, sc, rfl⟩ := own_shape hT.ow
    clear hq hT
    by_cases h0 : 0 < gk
    · have h0' : (0 : Int) < gk := by omega
      go_wp2_with fail
      refine (pick_any rb _ 4 _ T.out.rd (by omega)).mono ?_
      rintro e w3 ⟨kd, rfl, kd0, kd1, -, hg3, hr3⟩
      have T3 := Lib.hid (T.out.pick hg3 hr3)
      have hk4 : kd < 4 := kd1 (by omega)
      clear hg3 hr3 kd1 T
      rcases (show kd = 0 ∨ kd = 1 ∨ kd = 2 ∨ kd = 3 by omega) with rfl | rfl | rfl | rfl
      · have T4 := Lib.hid (NX.start T3.out 1)
        go_wp2_with fail
        refine (pick_any rb _ 9 _ T4.out.np.rd (by omega)).mono ?_
        rintro e y1 ⟨v1, rfl, v1a, v1b, -, hg, hr⟩
        have hb1 : v1 < 9 := v1b (by omega)
        have T5 := Lib.hid (T4.out.pick hg hr)
        have c0 := T5.out.c0
        have c1 := T5.out.c1
        have c2 := T5.out.c2
        have c3 := T5.out.c3
        have c4 := T5.out.c4
        have fz := T5.out.fz 1
        have hlo := T5.out.hi
        clear hg hr T4 v1b
        have T6 := Lib.hid (T5.out.set1 (1 + v1))
        have hsz : (y1.setCell ⟨w3.heap.size, 1, none⟩ (.int .i64 (1 + v1))).heap.size = y1.heap.size := by simp [World.setCell]
        have NW := Lib.hid (by have := news5 (y1.setCell ⟨w3.heap.size, 1, none⟩ (.int .i64 (1 + v1))) 1 (1 + v1) 0 0 0 28; rw [hsz] at this; exact this)
        have HGZ := Lib.hid (T6.out.np.alloc (.cells #[.int .i64 1, .int .i64 (1 + v1), .int .i64 0, .int .i64 0, .int .i64 0] 28)).gb.size
        clear hsz
        go_wp2_with (at_builtin; refine wpList_append_own _ rfl (.tmp 69) (.tmp 71) 23 rfl w.heap.size 28 i0 _ 5 40 Try.underlying23 HI.out.1 HI.out.2.1 HI.out.2.2.1 HI.out.2.2.2 rfl (by decide) _ (rest.length + 1) (flatN ((1, 1 + u, 0, 0, 0) :: rest)) rfl (T6.out.np.alloc _).ow ⟨y1.heap.size, 0, none⟩ 1 1 [.int .i64 1, .int .i64 (1 + v1), .int .i64 0, .int .i64 0, .int .i64 0] rfl rfl NW.out (one5 _ _ _ _ _) (by unfold maxLen; omega) (by omega) HGZ.out ?_; intro v' w' hown' hgrow hnil)
        have T9 := Lib.hid ((T6.out.np.alloc _).push hown' hgrow)
        clear hown' hgrow hnil
        go_roundg (gk - 1)
        case measure => omega
        case rel => exact ⟨rest ++ [(1, (1 + v1), 0, 0, 0)], by go_num, by have := HQ.out; rw [List.length_append]; simp; omega, T9.out.more (by rw [List.length_append]; simp; omega)⟩
      · have T4 := Lib.hid (NX.start T3.out 2)
        go_wp2_with fail
        refine (pick_any rb _ ((rest.length : Int) + 1) _ T4.out.np.rd (by omega)).mono ?_
        rintro e y1 ⟨v1, rfl, v1a, v1b, -, hg, hr⟩
        have hb1 : v1 < ((rest.length : Int) + 1) := v1b (by omega)
        have T5 := Lib.hid (T4.out.pick hg hr)
        have c0 := T5.out.c0
        have c1 := T5.out.c1
        have c2 := T5.out.c2
        have c3 := T5.out.c3
        have c4 := T5.out.c4
        have fz := T5.out.fz 2
        have hlo := T5.out.hi
        clear hg hr T4 v1b
        have T6 := Lib.hid (T5.out.set2 (v1))
        go_wp2_with fail
        clear c0 c1 c2 c3 c4 fz hlo
        refine (pick_any rb _ ((rest.length : Int) + 1) _ T6.out.np.rd (by omega)).mono ?_
        rintro e y2 ⟨v2, rfl, v2a, v2b, -, hg, hr⟩
        have hb2 : v2 < ((rest.length : Int) + 1) := v2b (by omega)
        have T7 := Lib.hid (T6.out.pick hg hr)
        have c0 := T7.out.c0
        have c1 := T7.out.c1
        have c2 := T7.out.c2
        have c3 := T7.out.c3
        have c4 := T7.out.c4
        have fz := T7.out.fz 3
        have hlo := T7.out.hi
        clear hg hr T6 v2b
        have T8 := Lib.hid (T7.out.set3 (v2))
        have hsz : (y2.setCell ⟨w3.heap.size, 3, none⟩ (.int .i64 (v2))).heap.size = y2.heap.size := by simp [World.setCell]
        have NW := Lib.hid (by have := news5 (y2.setCell ⟨w3.heap.size, 3, none⟩ (.int .i64 (v2))) 2 0 (v1) (v2) 0 28; rw [hsz] at this; exact this)
        have HGZ := Lib.hid (T8.out.np.alloc (.cells #[.int .i64 2, .int .i64 0, .int .i64 (v1), .int .i64 (v2), .int .i64 0] 28)).gb.size
        clear hsz
        go_wp2_with (at_builtin; refine wpList_append_own _ rfl (.tmp 69) (.tmp 71) 23 rfl w.heap.size 28 i0 _ 5 40 Try.underlying23 HI.out.1 HI.out.2.1 HI.out.2.2.1 HI.out.2.2.2 rfl (by decide) _ (rest.length + 1) (flatN ((1, 1 + u, 0, 0, 0) :: rest)) rfl (T8.out.np.alloc _).ow ⟨y2.heap.size, 0, none⟩ 1 1 [.int .i64 2, .int .i64 0, .int .i64 (v1), .int .i64 (v2), .int .i64 0] rfl rfl NW.out (one5 _ _ _ _ _) (by unfold maxLen; omega) (by omega) HGZ.out ?_; intro v' w' hown' hgrow hnil)
        have T9 := Lib.hid ((T8.out.np.alloc _).push hown' hgrow)
        clear hown' hgrow hnil
        go_roundg (gk - 1)
        case measure => omega
        case rel => exact ⟨rest ++ [(2, 0, (v1), (v2), 0)], by go_num, by have := HQ.out; rw [List.length_append]; simp; omega, T9.out.more (by rw [List.length_append]; simp; omega)⟩
      · have T4 := Lib.hid (NX.start T3.out 3)
        go_wp2_with fail
        refine (pick_any rb _ 3 _ T4.out.np.rd (by omega)).mono ?_
        rintro e y1 ⟨v1, rfl, v1a, v1b, -, hg, hr⟩
        have hb1 : v1 < 3 := v1b (by omega)
        have T5 := Lib.hid (T4.out.pick hg hr)
        have c0 := T5.out.c0
        have c1 := T5.out.c1
        have c2 := T5.out.c2
        have c3 := T5.out.c3
        have c4 := T5.out.c4
        have fz := T5.out.fz 1
        have hlo := T5.out.hi
        clear hg hr T4 v1b
        have T6 := Lib.hid (T5.out.set1 (1 + v1))
        go_wp2_with fail
        clear c0 c1 c2 c3 c4 fz hlo
        refine (pick_any rb _ ((rest.length : Int) + 1) _ T6.out.np.rd (by omega)).mono ?_
        rintro e y2 ⟨v2, rfl, v2a, v2b, -, hg, hr⟩
        have hb2 : v2 < ((rest.length : Int) + 1) := v2b (by omega)
        have T7 := Lib.hid (T6.out.pick hg hr)
        have c0 := T7.out.c0
        have c1 := T7.out.c1
        have c2 := T7.out.c2
        have c3 := T7.out.c3
        have c4 := T7.out.c4
        have fz := T7.out.fz 2
        have hlo := T7.out.hi
        clear hg hr T6 v2b
        have T8 := Lib.hid (T7.out.set2 (v2))
        go_wp2_with fail
        clear c0 c1 c2 c3 c4 fz hlo
        refine (pick_any rb _ ((rest.length : Int) + 1) _ T8.out.np.rd (by omega)).mono ?_
        rintro e y3 ⟨v3, rfl, v3a, v3b, -, hg, hr⟩
        have hb3 : v3 < ((rest.length : Int) + 1) := v3b (by omega)
        have T9 := Lib.hid (T8.out.pick hg hr)
        have c0 := T9.out.c0
        have c1 := T9.out.c1
        have c2 := T9.out.c2
        have c3 := T9.out.c3
        have c4 := T9.out.c4
        have fz := T9.out.fz 3
        have hlo := T9.out.hi
        clear hg hr T8 v3b
        have T10 := Lib.hid (T9.out.set3 (v3))
        have hsz : (y3.setCell ⟨w3.heap.size, 3, none⟩ (.int .i64 (v3))).heap.size = y3.heap.size := by simp [World.setCell]
        have NW := Lib.hid (by have := news5 (y3.setCell ⟨w3.heap.size, 3, none⟩ (.int .i64 (v3))) 3 (1 + v1) (v2) (v3) 0 28; rw [hsz] at this; exact this)
        have HGZ := Lib.hid (T10.out.np.alloc (.cells #[.int .i64 3, .int .i64 (1 + v1), .int .i64 (v2), .int .i64 (v3), .int .i64 0] 28)).gb.size
        clear hsz
        go_wp2_with (at_builtin; refine wpList_append_own _ rfl (.tmp 69) (.tmp 71) 23 rfl w.heap.size 28 i0 _ 5 40 Try.underlying23 HI.out.1 HI.out.2.1 HI.out.2.2.1 HI.out.2.2.2 rfl (by decide) _ (rest.length + 1) (flatN ((1, 1 + u, 0, 0, 0) :: rest)) rfl (T10.out.np.alloc _).ow ⟨y3.heap.size, 0, none⟩ 1 1 [.int .i64 3, .int .i64 (1 + v1), .int .i64 (v2), .int .i64 (v3), .int .i64 0] rfl rfl NW.out (one5 _ _ _ _ _) (by unfold maxLen; omega) (by omega) HGZ.out ?_; intro v' w' hown' hgrow hnil)
        have T9 := Lib.hid ((T10.out.np.alloc _).push hown' hgrow)
        clear hown' hgrow hnil
        go_roundg (gk - 1)
        case measure => omega
        case rel => exact ⟨rest ++ [(3, (1 + v1), (v2), (v3), 0)], by go_num, by have := HQ.out; rw [List.length_append]; simp; omega, T9.out.more (by rw [List.length_append]; simp; omega)⟩
      · have T4 := Lib.hid (NX.start T3.out 4)
        go_wp2_with fail
        refine (pick_any rb _ 2 _ T4.out.np.rd (by omega)).mono ?_
        rintro e y1 ⟨v1, rfl, v1a, v1b, -, hg, hr⟩
        have hb1 : v1 < 2 := v1b (by omega)
        have T5 := Lib.hid (T4.out.pick hg hr)
        have c0 := T5.out.c0
        have c1 := T5.out.c1
        have c2 := T5.out.c2
        have c3 := T5.out.c3
        have c4 := T5.out.c4
        have fz := T5.out.fz 1
        have hlo := T5.out.hi
        clear hg hr T4 v1b
        have T6 := Lib.hid (T5.out.set1 (1 + v1))
        go_wp2_with fail
        clear c0 c1 c2 c3 c4 fz hlo
        refine (pick_any rb _ ((rest.length : Int) + 1) _ T6.out.np.rd (by omega)).mono ?_
        rintro e y2 ⟨v2, rfl, v2a, v2b, -, hg, hr⟩
        have hb2 : v2 < ((rest.length : Int) + 1) := v2b (by omega)
        have T7 := Lib.hid (T6.out.pick hg hr)
        have c0 := T7.out.c0
        have c1 := T7.out.c1
        have c2 := T7.out.c2
        have c3 := T7.out.c3
        have c4 := T7.out.c4
        have fz := T7.out.fz 2
        have hlo := T7.out.hi
        clear hg hr T6 v2b
        have T8 := Lib.hid (T7.out.set2 (v2))
        go_wp2_with fail
        clear c0 c1 c2 c3 c4 fz hlo
        refine (pick_any rb _ 4 _ T8.out.np.rd (by omega)).mono ?_
        rintro e y3 ⟨v3, rfl, v3a, v3b, -, hg, hr⟩
        have hb3 : v3 < 4 := v3b (by omega)
        have T9 := Lib.hid (T8.out.pick hg hr)
        have c0 := T9.out.c0
        have c1 := T9.out.c1
        have c2 := T9.out.c2
        have c3 := T9.out.c3
        have c4 := T9.out.c4
        have fz := T9.out.fz 4
        have hlo := T9.out.hi
        clear hg hr T8 v3b
        have T10 := Lib.hid (T9.out.set4 (v3))
        have hsz : (y3.setCell ⟨w3.heap.size, 4, none⟩ (.int .i64 (v3))).heap.size = y3.heap.size := by simp [World.setCell]
        have NW := Lib.hid (by have := news5 (y3.setCell ⟨w3.heap.size, 4, none⟩ (.int .i64 (v3))) 4 (1 + v1) (v2) 0 (v3) 28; rw [hsz] at this; exact this)
        have HGZ := Lib.hid (T10.out.np.alloc (.cells #[.int .i64 4, .int .i64 (1 + v1), .int .i64 (v2), .int .i64 0, .int .i64 (v3)] 28)).gb.size
        clear hsz
        go_wp2_with (at_builtin; refine wpList_append_own _ rfl (.tmp 69) (.tmp 71) 23 rfl w.heap.size 28 i0 _ 5 40 Try.underlying23 HI.out.1 HI.out.2.1 HI.out.2.2.1 HI.out.2.2.2 rfl (by decide) _ (rest.length + 1) (flatN ((1, 1 + u, 0, 0, 0) :: rest)) rfl (T10.out.np.alloc _).ow ⟨y3.heap.size, 0, none⟩ 1 1 [.int .i64 4, .int .i64 (1 + v1), .int .i64 (v2), .int .i64 0, .int .i64 (v3)] rfl rfl NW.out (one5 _ _ _ _ _) (by unfold maxLen; omega) (by omega) HGZ.out ?_; intro v' w' hown' hgrow hnil)
        have T9 := Lib.hid ((T10.out.np.alloc _).push hown' hgrow)
        clear hown' hgrow hnil
        go_roundg (gk - 1)
        case measure => omega
        case rel => exact ⟨rest ++ [(4, (1 + v1), (v2), 0, (v3))], by go_num, by have := HQ.out; rw [List.length_append]; simp; omega, T9.out.more (by rw [List.length_append]; simp; omega)⟩
    · obtain rfl : gk = 0 := by omega
      have HV1 := Lib.hid (show pvB [((1, 1 + u, 0, 0, 0) : N5)] = true by
        have hn : nd8 [((1, 1 + u, 0, 0, 0) : N5)] 0 = (1, ((1 + u).toNat : Int), 0, 0, 0) := by
          rw [Int.toNat_of_nonneg (by omega)]; rfl
        refine pv_iff.2 ⟨by simp, fun i hi => ?_, ?_⟩
        · obtain rfl : i = 0 := by simpa using hi
          simp [nd8, nvB]; omega
        · show cp8 true _ 0 ≤ 600
          rw [cp8_block hn]; omega)
      clear HQ
      go_wp2_with fail
      go_loopg [5] rest.length (fun q s wr => ∃ r2 : List N5, q = r2.length ∧ r2.length ≤ 11 ∧ NP rb w wr (p + 46) s ((1, 1 + u, 0, 0, 0) :: r2))
      case atStart => exact ⟨rest, rfl, by omega, T.out.more (by omega)⟩
      case round =>
        obtain ⟨r2, hq, hr2, hT⟩ := hrel
        have HQ := Lib.hid hq
        have T2 := Lib.hid hT
        obtain ⟨g, gc, rfl, -, -, hgc, -⟩ := hT.ow.at (by simp)
        rw [List.length_cons] at hgc
        clear hq hT
        go_wp2_with fail
        refine (specProgramValid_any _ _ ((1, 1 + u, 0, 0, 0) :: r2) wr (OwnN.rowOf T2.out.ow) (by simp; omega)).mono ?_
        rintro e y1 ⟨rfl, b1⟩
        have T3 := Lib.hid (T2.out.below b1)
        clear b1 T2
        cases hv : pvB ((1, 1 + u, 0, 0, 0) :: r2) with
        | false =>
          obtain ⟨r3, nl, rfl⟩ : ∃ r3 nl, r2 = r3 ++ [nl] := by
            rcases List.eq_nil_or_concat r2 with e | ⟨l, a, e⟩
            · rw [e, HV1.out] at hv; simp at hv
            · exact ⟨l, a, by rw [e, List.concat_eq_append]⟩
          clear hv
          rw [List.length_append, List.length_singleton] at hr2
          have hl2 : (r3 ++ [nl]).length = r3.length + 1 := by simp
          rw [hl2] at hgc
          have HQ3 := Lib.hid (show gk = r3.length + 1 by rw [← hl2]; exact HQ.out)
          have HR3 := Lib.hid hr2
          clear hl2 HQ
          go_wp2_with fail
          go_roundg (gk - 1)
          case measure => have := HQ3.out; omega
          case rel => exact ⟨r3, by have := HQ3.out; omega, by have := HR3.out; omega, T3.out.gb, T3.out.rd, OwnN.drop (ps := (1, 1 + u, 0, 0, 0) :: r3) (n := nl) (by have := T3.out.ow; simpa using this), T3.out.rl⟩
        | true =>
          clear hv HQ
          go_wp2_with fail
          refine (odd_any rb _ n _ T3.out.rd (by omega)).mono ?_
          rintro e y2 ⟨b, rfl, hg, hr⟩
          have T4 := Lib.hid (T3.out.pick hg hr)
          have hl4 := hr.lt
          clear hg hr T3
          cases b with
          | false =>
            go_wp2
            go_ret
            exact ⟨_, _, rfl, T4.out.more (by omega), by simp; omega⟩
          | true =>
            go_wp2_with fail
            refine (pick_any rb _ 5 _ T4.out.rd (by omega)).mono ?_
            rintro e y3 ⟨z, rfl, z0, z1, -, hg, hr⟩
            have T5 := Lib.hid (T4.out.pick hg hr)
            have hl5 := hr.lt
            have hz5 : z < 5 := z1 (by omega)
            clear hg hr T4 z1
            rcases (show z = 0 ∨ z = 1 ∨ z = 2 ∨ z = 3 ∨ z = 4 by omega) with rfl | rfl | rfl | rfl | rfl
            · go_wp2
              go_ret
              exact ⟨_, [], rfl, ⟨gb_trans T5.out.gb (gb_below (below_box _ _)), (T5.out.rd.alloc _).mono (by omega), (OwnN.empty y3).mono T5.out.gb.size, T5.out.rl⟩, by simp⟩
            · go_wp2_with (at_builtin; refine wpList_append_own _ rfl (.tmp 101) (.tmp 105) 23 rfl w.heap.size 28 i0 _ 5 40 Try.underlying23 HI.out.1 HI.out.2.1 HI.out.2.2.1 HI.out.2.2.2 rfl (by decide) _ (r2.length + 1) (flatN ((1, 1 + u, 0, 0, 0) :: r2)) rfl (T5.out.alloc _).ow ⟨y3.heap.size, 0, none⟩ 1 1 [.int .i64 2, .int .i64 0, .int .i64 ((r2.length : Int) + 1), .int .i64 0, .int .i64 0] rfl rfl (news5 _ _ _ _ _ _ _) (one5 _ _ _ _ _) (by unfold maxLen; omega) (by omega) (T5.out.alloc _).gb.size ?_; intro v' w' hown' hgrow hnil; have T9 := Lib.hid ((T5.out.alloc _).push hown' hgrow); clear hown' hgrow hnil)
              go_ret
              exact ⟨_, _, rfl, T9.out.more (by omega), by simp; omega⟩
            · go_wp2_with fail
              refine (pick_any rb _ ((r2.length : Int) + 1) _ T5.out.rd (by omega)).mono ?_
              rintro e y4 ⟨z4, rfl, z40, z41, -, hg, hr⟩
              obtain ⟨I, rfl⟩ : ∃ I : Nat, z4 = I := ⟨z4.toNat, (Int.toNat_of_nonneg z40).symm⟩
              have hI : I < r2.length + 1 := by have := z41 (by omega); omega
              have hI1 : (I : Int) < (r2.length : Int) + 1 := by omega
              have T6 := Lib.hid (T5.out.pick hg hr)
              have hl6 := hr.lt
              clear hg hr T5 z41
              go_wp2_with fail
              refine (pick_any rb _ 2 _ (T6.out.rd.alloc _) (by omega)).mono ?_
              rintro e y5 ⟨z5, rfl, z50, z51, -, hg, hr⟩
              have hz5 : z5 < 2 := z51 (by omega)
              obtain ⟨P, hP, hcP⟩ := ints_new (j := z5.toNat) [0, 5] hg hl6 (by simp; omega)
              have T7 := Lib.hid ((T6.out.alloc _).pick hg hr)
              clear hg hr T6 z51 hP
              obtain ⟨c0, c1, hfz⟩ := T7.out.cellsN (show I < ((1, 1 + u, 0, 0, 0) :: r2 : List N5).length by simp; omega)
              have f0 := hfz (I * 5)
              clear hfz
              have T8 := Lib.hid (T7.out.setN (k := I) (c := 0) (by simp; omega) (by omega) P)
              go_wp2
              go_ret
              exact ⟨_, _, rfl, T8.out.more (by omega), by simp; omega⟩
            · go_wp2_with fail
              refine (pick_any rb _ ((r2.length : Int) + 1) _ T5.out.rd (by omega)).mono ?_
              rintro e y4 ⟨z4, rfl, z40, z41, -, hg, hr⟩
              obtain ⟨I, rfl⟩ : ∃ I : Nat, z4 = I := ⟨z4.toNat, (Int.toNat_of_nonneg z40).symm⟩
              have hI : I < r2.length + 1 := by have := z41 (by omega); omega
              have hI1 : (I : Int) < (r2.length : Int) + 1 := by omega
              have T6 := Lib.hid (T5.out.pick hg hr)
              have hl6 := hr.lt
              clear hg hr T5 z41
              go_wp2_with fail
              refine (pick_any rb _ 3 _ (T6.out.rd.alloc _) (by omega)).mono ?_
              rintro e y5 ⟨z5, rfl, z50, z51, -, hg, hr⟩
              have hz5 : z5 < 3 := z51 (by omega)
              obtain ⟨P, hP, hcP⟩ := ints_new (j := z5.toNat) [-1, 10, 0] hg hl6 (by simp; omega)
              have T7 := Lib.hid ((T6.out.alloc _).pick hg hr)
              clear hg hr T6 z51 hP
              obtain ⟨c0, c1, hfz⟩ := T7.out.cellsN (show I < ((1, 1 + u, 0, 0, 0) :: r2 : List N5).length by simp; omega)
              have f0 := hfz (I * 5 + 1)
              clear hfz
              have T8 := Lib.hid (T7.out.setN (k := I) (c := 1) (by simp; omega) (by omega) P)
              go_wp2
              go_ret
              exact ⟨_, _, rfl, T8.out.more (by omega), by simp; omega⟩
            · go_wp2_with fail
              go_loopg [5] (11 - r2.length) (fun q s wr => ∃ r4 : List N5, q + r4.length = 11 ∧ NP rb w wr (p + 48) s ((1, 1 + u, 0, 0, 0) :: r4))
              case atStart => exact ⟨r2, by omega, T5.out.more (by omega)⟩
              case round =>
                obtain ⟨r4, hq, hT⟩ := hrel
                have HQ := Lib.hid hq
                have T6 := Lib.hid hT
                have hr4 : r4.length ≤ 11 := by omega
                obtain ⟨g4, gc4, rfl, -, -, -, -⟩ := hT.ow.at (by simp)
                clear hq hT
                by_cases h0 : 0 < gk
                · have hlt4 : r4.length < 11 := by have := HQ.out; omega
                  go_wp2_with (at_builtin; refine wpList_append_own _ rfl (.tmp 89) (.tmp 94) 23 rfl w.heap.size 28 i0 _ 5 40 Try.underlying23 HI.out.1 HI.out.2.1 HI.out.2.2.1 HI.out.2.2.2 rfl (by decide) _ (r4.length + 1) (flatN ((1, 1 + u, 0, 0, 0) :: r4)) rfl (T6.out.alloc _).ow ⟨wr.heap.size, 0, none⟩ 1 1 [.int .i64 4, .int .i64 1, .int .i64 (r4.length : Int), .int .i64 0, .int .i64 4] rfl rfl (news5 _ _ _ _ _ _ _) (one5 _ _ _ _ _) (by unfold maxLen; omega) (by omega) (T6.out.alloc _).gb.size ?_; intro v' w' hown' hgrow hnil; have T9 := Lib.hid ((T6.out.alloc _).push hown' hgrow); clear hown' hgrow hnil)
                  go_roundg (gk - 1)
                  case measure => omega
                  case rel => exact ⟨r4 ++ [(4, 1, (r4.length : Int), 0, 4)], by have := HQ.out; rw [List.length_append]; simp; omega, by have h9 := T9.out; rw [List.cons_append] at h9; exact h9⟩
                · have hlt4 : r4.length = 11 := by have := HQ.out; omega
                  go_wp2
                  go_ret
                  exact ⟨_, _, rfl, T6.out.more (by omega), by simp; omega⟩

end Go.Proofs.Ytlcdmjcikbgnpaa
