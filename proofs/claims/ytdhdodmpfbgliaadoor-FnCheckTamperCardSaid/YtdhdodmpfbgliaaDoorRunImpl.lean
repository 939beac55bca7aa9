/- Contract of impl.RunEdf. Conditions: the slices' cells hold tasks and jobs; their lengths are at most 2^40. -/
import Derived.Test.YtdhdodmpfbgliaaDoorSimul
import Derived.Test.YtdhdodmpfbgliaaDoorLegAll
import Derived.Test.YtdhdodmpfbgliaaDoorPlain
namespace Go.Proofs.YtdhdodmpfbgliaaDoor
open Go.RowKit Go.Deep

/-- Orders jobs by deadline, then by index. -/
def edfK (js : List J4) : Nat → Nat := fun x => jdl js x * 64 + x
theorem edfK_lt {js : List J4} (hn : js.length ≤ 60) {x y : Nat} (hx : x < js.length) (hy : y < js.length) : edfK js x < edfK js y ↔ jdl js x < jdl js y ∨ (jdl js x = jdl js y ∧ x < y) := by
  unfold edfK
  omega
theorem leg_ex {ts : List T3} {js : List J4} (h : legB ts js = true) : ∀ k, k < js.length → 1 ≤ (edfP js).ex k ∧ (edfP js).ex k ≤ 1000 := by
  obtain ⟨hf, hx, _⟩ := leg_fits h
  intro k hk
  refine ⟨?_, hx k hk⟩
  have h1 := hf.ex k hk
  have h2 := ((legB_iff.1 h).2.2 k hk).2.2.2.2.1.1
  omega

set_option maxRecDepth 100000 in
/-- impl.RunEdf. -/
theorem runEdf_any (a ja : Option Addr) (cap jcap : Nat) (ts : List T3) (js : List J4) (w : World) (hr : Row w a ts) (hj : RowJ w ja js) (hn : ts.length ≤ 1099511627776) (hjn : js.length ≤ 1099511627776) :
    Calls Tryd.prog 9 #[.slice a ts.length cap, .slice ja js.length jcap] w fun e w' =>
      EdfSched w.heap.size ts js e w' ∧ Below w.heap.size w w' := by
  obtain ⟨W, hW⟩ : ∃ W, W = w.alloc (.cells #[.slice none 0 0, .slice none 0 0] 29) := ⟨_, rfl⟩
  have BW : Below w.heap.size w W := by rw [hW]; exact below_box _ _
  have sW : w.heap.size < W.heap.size := by rw [hW]; simp
  have q1 : W.cell? ⟨w.heap.size, 0, none⟩ = some (.slice none 0 0) := by rw [hW]; simp [go_sem]
  have q2 : W.cell? ⟨w.heap.size, 1, none⟩ = some (.slice none 0 0) := by rw [hW]; simp [go_sem]
  have q3 : W.frozen? ⟨w.heap.size, 0, none⟩ = false := by rw [hW]; simp [go_sem]
  have q4 : W.frozen? ⟨w.heap.size, 1, none⟩ = false := by rw [hW]; simp [go_sem]
  have HR := Lib.hid (hr.below BW)
  have HJ := Lib.hid (hj.below BW)
  have HW := Lib.hid hW
  clear hr hj hW
  by_cases hl : legB ts js = true
  · have HL := Lib.hid hl
    have h60 := (legB_iff.1 hl).2.1
    clear hl
    go_enter Tryd.func9, Tryd.ntmps9
    go_wp2_with fail
    rw [← HW.out]
    refine (jobsLegal_any _ _ _ _ _ _ _ HR.out HJ.out hn hjn).mono ?_
    rintro e w1 ⟨rfl, b1⟩
    rw [HL.out]
    have J1 := Lib.hid (HJ.out.below b1)
    have s1 := b1.size
    have x1 := (b1.cell (p := ⟨w.heap.size, 0, none⟩) (show w.heap.size < _ by omega)).trans q1
    have x2 := (b1.cell (p := ⟨w.heap.size, 1, none⟩) (show w.heap.size < _ by omega)).trans q2
    have x3 := (b1.frozen (p := ⟨w.heap.size, 0, none⟩) (show w.heap.size < _ by omega)).trans q3
    have x4 := (b1.frozen (p := ⟨w.heap.size, 1, none⟩) (show w.heap.size < _ by omega)).trans q4
    have B1 := Lib.hid (BW.trans (b1.mono BW.size))
    clear q1 q2 q3 q4 b1
    go_wp2_with fail
    refine (earlierDeadline_any ja jcap js w1).mono ?_
    rintro e w2 ⟨rfl, x0, s2, b2⟩
    have J2 := Lib.hid (J1.out.below b2)
    have y1 := (b2.cell (p := ⟨w.heap.size, 0, none⟩) (show w.heap.size < _ by omega)).trans x1
    have y2 := (b2.cell (p := ⟨w.heap.size, 1, none⟩) (show w.heap.size < _ by omega)).trans x2
    have y3 := (b2.frozen (p := ⟨w.heap.size, 0, none⟩) (show w.heap.size < _ by omega)).trans x3
    have y4 := (b2.frozen (p := ⟨w.heap.size, 1, none⟩) (show w.heap.size < _ by omega)).trans x4
    have B2 := Lib.hid (B1.out.trans (b2.mono B1.out.size))
    clear x1 x2 x3 x4 b2
    go_wp2_with fail
    have hky := (leg_fits HL.out).2.2
    have hCmp : Cmp w2 (.func (.func 60) #[] #[.pointer (some ⟨w1.heap.size, 0, none⟩)]) ja jcap js (edfK js) := ⟨J2.out, .inl ⟨w1.heap.size, rfl, fun W x y hB hx hy =>
      (before_any w1.heap.size ja jcap js x y W ((hB.cell (p := ⟨w1.heap.size, 0, none⟩) s2).trans x0) (J2.out.below hB) hx hy).mono (by
        rintro e w' ⟨rfl, hb⟩
        refine ⟨ret_bool (decide_eq_decide.2 ?_), hb⟩
        have e1 : (jb js x).2.2.1 = ((jdl js x : Nat) : Int) := hky x hx
        have e2 : (jb js y).2.2.1 = ((jdl js y : Nat) : Int) := hky y hy
        rw [edfK_lt h60 hx hy, e1, e2]
        omega)⟩⟩
    refine (simulated_any ja jcap (.func (.func 60) #[] #[.pointer (some ⟨w1.heap.size, 0, none⟩)]) js (edfP js) (edfK js) w2 hCmp (leg_fits HL.out).1 (leg_ex HL.out) h60 (fun i j h1 h2 => leg_rel HL.out h1 h2) (fun x y hx hy => edfK_lt h60 hx hy)).mono ?_
    rintro e w3 ⟨⟨vr, vf, rfl, o1, o2, ap⟩, b3⟩
    have z1 := (b3.cell (p := ⟨w.heap.size, 0, none⟩) (show w.heap.size < _ by omega)).trans y1
    have z2 := (b3.cell (p := ⟨w.heap.size, 1, none⟩) (show w.heap.size < _ by omega)).trans y2
    have z3 := (b3.frozen (p := ⟨w.heap.size, 0, none⟩) (show w.heap.size < _ by omega)).trans y3
    have z4 := (b3.frozen (p := ⟨w.heap.size, 1, none⟩) (show w.heap.size < _ by omega)).trans y4
    obtain ⟨ar, capr, rfl⟩ := own_shape o1
    obtain ⟨af, capf, rfl⟩ := own_shape o2
    have B3 := Lib.hid (B2.out.trans (b3.mono B2.out.size))
    have O := Lib.hid (And.intro o1 (And.intro o2 ap))
    clear o1 o2 ap x0 y1 y2 y3 y4 hky hCmp b3
    go_wp2
    refine bodyPost_ret (v := .agg #[.slice ar 120 capr, .slice af js.length capf]) ?_ rfl ⟨⟨_, _, rfl, ?_, ?_, O.out.2.2⟩, (B3.out.setCell (by simp) _).setCell (by simp) _⟩
    · simp [results, Tryd.results9, go_sem, z1, z2]
    · rw [lenR, if_pos HL.out]
      exact ((O.out.1.other fun e => by have := (O.out.1.lt _ e).1; simp at this; omega).other fun e => by have := (O.out.1.lt _ e).1; simp at this; omega).mono (by omega)
    · rw [lenF, if_pos HL.out]
      exact ((O.out.2.1.other fun e => by have := (O.out.2.1.lt _ e).1; simp at this; omega).other fun e => by have := (O.out.2.1.lt _ e).1; simp at this; omega).mono (by omega)
  · have hl' : legB ts js = false := by simpa using hl
    have HL := Lib.hid hl'
    clear hl hl'
    go_enter Tryd.func9, Tryd.ntmps9
    go_wp2_with fail
    rw [← HW.out]
    refine (jobsLegal_any _ _ _ _ _ _ _ HR.out HJ.out hn hjn).mono ?_
    rintro e w1 ⟨rfl, b1⟩
    rw [HL.out]
    have x1 := (b1.cell (p := ⟨w.heap.size, 0, none⟩) (show w.heap.size < _ by omega)).trans q1
    have x2 := (b1.cell (p := ⟨w.heap.size, 1, none⟩) (show w.heap.size < _ by omega)).trans q2
    have x3 := (b1.frozen (p := ⟨w.heap.size, 0, none⟩) (show w.heap.size < _ by omega)).trans q3
    have x4 := (b1.frozen (p := ⟨w.heap.size, 1, none⟩) (show w.heap.size < _ by omega)).trans q4
    have B1 := Lib.hid (BW.trans (b1.mono BW.size))
    clear q1 q2 q3 q4 b1
    go_wp2
    refine bodyPost_ret (v := .agg #[.slice none 0 0, .slice none 0 0]) ?_ rfl ⟨⟨_, _, rfl, ?_, ?_, Apart.nil _⟩, (B1.out.setCell (by simp) _).setCell (by simp) _⟩
    · simp [results, Tryd.results9, go_sem, x1, x2]
    · rw [lenR, if_neg (by rw [HL.out]; simp)]
      exact OwnI.nil _ _ _
    · rw [lenF, if_neg (by rw [HL.out]; simp)]
      exact OwnI.nil _ _ _

end Go.Proofs.YtdhdodmpfbgliaaDoor
