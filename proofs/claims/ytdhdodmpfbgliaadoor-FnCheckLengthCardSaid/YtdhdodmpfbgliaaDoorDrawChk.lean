/- Contract of spec.DrawCheckSchedule: a task set, a release pattern and a schedule are drawn. What is drawn is not told, only its bounds. Condition: the argument is a slice of bytes. -/
import Derived.Test.YtdhdodmpfbgliaaDoorDrawEdf
import Derived.Test.YtdhdodmpfbgliaaDoorChkSpec
namespace Go.Proofs.YtdhdodmpfbgliaaDoor
open Go.RowKit Go.Deep

/-- A task set, jobs and a schedule were drawn. -/
def GotChk (w : World) (e : Ending) (w' : World) : Prop :=
  ∃ (g cap jcap rcap n : Nat) (ja ra : Option Addr) (ts : List T3) (js : List J4) (r : Nat → Int), e = .returned (.tuple #[.slice (some ⟨g, 0, none⟩) ts.length cap, .slice ja js.length jcap, .slice ra n rcap]) ∧ ts.length ≤ 12 ∧ js.length ≤ 61 ∧ n ≤ 120 ∧
    Row w' (some ⟨g, 0, none⟩) ts ∧ OwnJ w' w.heap.size (.slice ja js.length jcap) js ∧ OwnI w' w.heap.size (.slice ra n rcap) n r ∧ Below w.heap.size w w'
/-- While the schedule is turned: only the reader rb and the schedule, from block B on, turn. -/
structure DC (w W : World) (rb g B q : Nat) (ts : List T3) (js : List J4) (jv rv : Value) (n : Nat) (r : Nat → Int) : Prop where
  rd : Rd W rb q
  row : Row W (some ⟨g, 0, none⟩) ts
  oj : OwnJ W (rb + 1) jv js
  ow : OwnI W B rv n r
  bl : Below w.heap.size w W
  lr : w.heap.size ≤ rb
  rB : rb < B
  gB : 0 < ts.length → g < B
  gr : g ≠ rb
  jB : ∀ k, jv.ownBlock = some k → k < B
  sB : B ≤ W.heap.size
variable {w W W' : World} {rb g B q q' n : Nat} {ts : List T3} {js : List J4} {jv rv : Value} {r : Nat → Int}
theorem row_of {g' off : Nat} (h : Row W (some ⟨g', off, none⟩) ts) (hb : 0 < ts.length → W'.heap[g']? = W.heap[g']?) (hs : W.heap.size ≤ W'.heap.size) : Row W' (some ⟨g', off, none⟩) ts := by
  intro k t hk
  obtain ⟨b, o, e, hlt, h0, h1, h2⟩ := h k t hk
  simp only [Option.some.injEq, Addr.mk.injEq, and_true] at e
  obtain ⟨rfl, rfl⟩ := e
  have hb := hb (by have := (List.getElem?_eq_some_iff.1 hk).1; omega)
  exact ⟨g', off, rfl, by omega, (World.cell?_of_block (a := ⟨g', off + k * 3, none⟩) hb).trans h0, (World.cell?_of_block (a := ⟨g', off + k * 3 + 1, none⟩) hb).trans h1, (World.cell?_of_block (a := ⟨g', off + k * 3 + 2, none⟩) hb).trans h2⟩
theorem ownJ_of {base : Nat} (h : OwnJ W base jv js) (hb : ∀ k, jv.ownBlock = some k → W'.heap[k]? = W.heap[k]?) : OwnJ W' base jv js := by
  obtain ⟨h1, h2 | ⟨b, cap, cur, rfl, h3, h4, h5⟩⟩ := h
  · exact ⟨h1, .inl h2⟩
  · exact ⟨h1, .inr ⟨b, cap, cur, rfl, h3, (hb b rfl).trans h4, h5⟩⟩
theorem ownI_of {base : Nat} (h : OwnI W base rv n r) (hb : ∀ k, rv.ownBlock = some k → W'.heap[k]? = W.heap[k]?) : OwnI W' base rv n r := by
  obtain ⟨h1, h2 | ⟨b, cap, cur, rfl, h3, h4, h5⟩⟩ := h
  · exact ⟨h1, .inl h2⟩
  · exact ⟨h1, .inr ⟨b, cap, cur, rfl, h3, (hb b rfl).trans h4, h5⟩⟩
theorem DC.pick (h : DC w W rb g B q ts js jv rv n r) (hg : W.grownBy W' (some rb)) (hr : Rd W' rb q') : DC w W' rb g B q' ts js jv rv n r :=
  ⟨hr, row_of h.row (fun hp => hg.block g (by have := h.gB hp; have := h.sB; omega) (fun e => h.gr (by simpa using e))) hg.size,
    ownJ_of h.oj (fun k hk => hg.block k (h.oj.lt k hk).2 (fun e => by have := (h.oj.lt k hk).1; simp only [Option.some.injEq] at e; omega)),
    ownI_of h.ow (fun k hk => hg.block k (h.ow.lt k hk).2 (fun e => by have := (h.ow.lt k hk).1; have := h.rB; simp only [Option.some.injEq] at e; omega)),
    h.bl.trans (gb_to_below hg h.lr h.bl.size), h.lr, h.rB, h.gB, h.gr, h.jB, Nat.le_trans h.sB hg.size⟩
theorem DC.drew (h : DC w W rb g B q ts js jv rv n r) : DC w W.drew rb g B q ts js jv rv n r :=
  ⟨h.rd.below (Below.refl _ _).drew, h.row.below (Below.refl _ _).drew, h.oj.below (Below.refl _ _).drew, h.ow.drew, h.bl.drew, h.lr, h.rB, h.gB, h.gr, h.jB, h.sB⟩
theorem DC.set {b c i : Nat} (h : DC w W rb g B q ts js jv (.slice (some ⟨b, 0, none⟩) n c) n r) (hi : i < n) (x : Int) : DC w (W.setCell ⟨b, i, none⟩ (.int .i64 x)) rb g B q ts js jv (.slice (some ⟨b, 0, none⟩) n c) n (fun k => if k = i then x else r k) := by
  have hbB := (h.ow.lt b rfl).1
  have hk : ∀ k, k < B → (W.setCell ⟨b, i, none⟩ (.int .i64 x)).heap[k]? = W.heap[k]? := fun k hk => by
    simp [World.setCell, Array.getElem?_modify, show b ≠ k by omega]
  exact ⟨h.rd.set (show rb < b by have := h.rB; omega) _, row_of h.row (fun hp => hk g (h.gB hp)) (by simp), ownJ_of h.oj (fun k e => hk k (h.jB k e)), h.ow.set hi x,
    h.bl.setCell (show w.heap.size ≤ b by have := h.lr; have := h.rB; omega) _, h.lr, h.rB, h.gB, h.gr, h.jB, by simpa using h.sB⟩
theorem ownI_take {base b c k : Nat} (h : OwnI W base (.slice (some ⟨b, 0, none⟩) n c) n r) (hk : k ≤ n) : OwnI W base (.slice (some ⟨b, 0, none⟩) k c) k r := by
  obtain ⟨_, ⟨e, _⟩ | ⟨b', cap, cur, e, h3, h4, h5, h6, h7, h8⟩⟩ := h
  · simp at e
  · simp only [Value.slice.injEq, Option.some.injEq, Addr.mk.injEq, and_true, true_and] at e
    obtain ⟨rfl, rfl⟩ := e
    refine ⟨by rw [vals_len, Nat.mul_one], .inr ⟨b, c, cur, rfl, h3, h4, by omega, h6, h7, ?_⟩⟩
    have := congrArg (List.take (k * 1)) h8
    rw [List.take_take, Nat.min_eq_left (by omega)] at this
    rw [this]
    apply List.ext_getElem?
    intro m
    rw [List.getElem?_take]
    by_cases hm : m < k
    · rw [if_pos (by omega), vals_at r (by omega : m < n), vals_at r hm]
    · rw [if_neg (by omega), List.getElem?_eq_none (by rw [vals_len]; omega)]
theorem DC.got {ja ra : Option Addr} {jcap rcap cap : Nat} (h : DC w W rb g B q ts js (.slice ja js.length jcap) (.slice ra n rcap) n r) (h1 : ts.length ≤ 12) (h2 : js.length ≤ 61) (h3 : n ≤ 120) : GotChk w (.returned (.tuple #[.slice (some ⟨g, 0, none⟩) ts.length cap, .slice ja js.length jcap, .slice ra n rcap])) W :=
  ⟨g, cap, jcap, rcap, n, ja, ra, ts, js, r, rfl, h1, h2, h3, h.row, h.oj.mono (by have := h.lr; omega), h.ow.mono (by have := h.lr; have := h.rB; omega), h.bl⟩

/-- The field Run of a schedule. -/
theorem field_run (a : Option Addr) (n c : Nat) (x : Value) (w : World) : (Instr.field 29 (.agg #[.slice a n c, x]) 0).run Tryd.prog w = .ok (.slice a n c) w := by
  simp [Instr.field, go_sem, part, asAgg]
set_option maxRecDepth 100000 in
set_option maxHeartbeats 8000000 in
/-- spec.DrawCheckSchedule. -/
theorem drawCheckSchedule_any (a : Option Addr) (len cap : Nat) (w : World) (hb : Byts w a len cap) :
    Calls Tryd.prog 16 #[.slice a len cap] w (GotChk w) := by
  obtain ⟨hb, hc, hm⟩ := hb
  have HB := Lib.hid hb
  clear hb
  go_enter Tryd.func16, Tryd.ntmps16
  go_wp2_with fail
  refine (l20Open_any _ _ _ _ HB.out hc hm).mono ?_
  rintro e w1 ⟨rfl, hr, hb1, hs1⟩
  have HR := Lib.hid hr
  clear hr
  go_wp2_with fail
  refine (l20Set_full w.heap.size 0 24 _ HR.out (by omega)).mono ?_
  rintro e w2 ⟨a2, cap2, ts, rfl, hlen, hlc, hcm, hrow, hg, hr2, ⟨g, rfl, hgg⟩, _⟩
  have HW := Lib.hid hrow
  have HR2 := Lib.hid hr2
  have hrl := hr2.lt
  have B2 : Below w.heap.size w w2 := hb1.trans (gb_to_below hg (Nat.le_refl _) hb1.size)
  clear hrow hr2
  have hgne : g ≠ w.heap.size := by have := HR.out.lt; omega
  by_cases hv : svB ts = true
  · go_wp2_with fail
    refine (specSetValid_any _ _ _ _ HW.out (by omega)).mono ?_
    rintro e w3 ⟨rfl, b3⟩
    have HW3 := Lib.hid (HW.out.below b3)
    have HR3 := Lib.hid (HR2.out.below b3)
    have hs2 := B2.size
    go_wp2_with fail
    refine (l20Jobs_any w.heap.size 200 g 0 cap2 20 ts _ HR3.out (by omega) HW3.out hgne hv).mono ?_
    rintro e w4 ⟨s, js, rfl, hjt, hol, _⟩
    have HT := Lib.hid hjt
    clear hjt
    obtain ⟨ja, jcap, rfl⟩ := HT.out.ow.shape
    have HW4 := Lib.hid (HT.out.row HW3.out hgne)
    have B3 : Below w.heap.size w w3 := B2.trans (b3.mono hs2)
    have B4 := Lib.hid (show Below w.heap.size w w4 from B3.trans (gb_to_below HT.out.gb (Nat.le_refl _) (by have := b3.size; omega)))
    have HG4 := Lib.hid (show 0 < ts.length → g < w4.heap.size from fun hp => by
      obtain ⟨b, o, e, hlt, -⟩ := HW4.out 0 _ (List.getElem?_eq_getElem hp)
      simp only [Option.some.injEq, Addr.mk.injEq] at e
      omega)
    clear hv
    go_wp2_with fail
    refine (specRunEdf_any _ _ _ _ ts js _ HW4.out HT.out.ow.rowJ (by omega) (by omega)).mono ?_
    rintro e w5 ⟨⟨vr, vf, rfl, o1, -, -⟩, b5⟩
    obtain ⟨ra, rc, rfl⟩ := own_shape o1
    have D5 := Lib.hid (show DC w w5 w.heap.size g w4.heap.size _ ts js (.slice ja js.length jcap) (.slice ra (lenR ts js) rc) (lenR ts js) (runF js) from ⟨HT.out.rd.below b5, HW4.out.below b5, (HT.out.ow.mono (by have := b3.size; omega)).below b5, o1, B4.out.trans (b5.mono B4.out.size), Nat.le_refl _, HT.out.rd.lt, HG4.out, hgne, fun k hk => (HT.out.ow.lt k hk).2, b5.size⟩)
    clear o1 b5 HT HW4 B4 HG4 HW3 HR3 B3 b3 HW HR2 HR B2 hb1 hs1 hg hrl hgne hs2 HB
    cases hlg : legB ts js with
    | false =>
      have hz : lenR ts js = 0 := by unfold lenR; rw [hlg]; rfl
      rw [hz] at D5 ⊢
      have hfr := fun w => field_run ra 0 rc vf w
      clear hz hlg
      go_wp2
      go_ret3
      exact D5.out.got hlen hol (by omega)
    | true =>
      have hz : lenR ts js = 120 := by unfold lenR; rw [hlg]; rfl
      rw [hz] at D5 ⊢
      have hfr := fun w => field_run ra 120 rc vf w
      clear hz hlg
      go_wp2_with fail
      refine (pick_any w.heap.size _ 2 _ D5.out.rd (by omega)).mono ?_
      rintro e w6 ⟨v, rfl, v0, v1, _, hg6, hr6⟩
      have v2 := v1 (by decide)
      have D6 := Lib.hid (D5.out.pick hg6 hr6)
      clear hg6 hr6 D5 v1
      by_cases h0 : v = 0
      · subst h0
        go_wp2_with fail
        refine (pick_any w.heap.size _ 120 _ D6.out.rd (by omega)).mono ?_
        rintro e w7 ⟨k, rfl, k0, k1, _, hg7, hr7⟩
        have k2 := k1 (by decide)
        have D7 := Lib.hid (D6.out.pick hg7 hr7)
        obtain ⟨k, rfl⟩ : ∃ q : Nat, k = (q : Int) := ⟨k.toNat, by omega⟩
        have hk9 : k < 120 := by omega
        clear hg7 hr7 D6 k1 v0 v2
        go_wp2_with fail
        refine (pick_any w.heap.size _ 4 _ D7.out.rd (by omega)).mono ?_
        rintro e w8 ⟨x, rfl, x0, x1, _, hg8, hr8⟩
        have x2 := x1 (by decide)
        have D8 := Lib.hid (D7.out.pick hg8 hr8)
        obtain ⟨gr, rc', e8, -, -, hrc, -⟩ := D8.out.ow.at (by omega)
        simp only [Value.slice.injEq, true_and] at e8
        obtain ⟨rfl, rfl⟩ := e8
        clear hg8 hr8 D7 x1
        rcases (show x = 0 ∨ x = 1 ∨ x = 2 ∨ x = 3 by omega) with rfl | rfl | rfl | rfl
        · go_wp2_with fail
          have hwl : IntKind.i64.wrap ((js.length : Int) + 2) = (js.length : Int) + 2 := IntWalk.i64_in _ (by omega)
          refine (pick_any w.heap.size _ _ _ D8.out.rd (by omega)).mono ?_
          rintro e w9 ⟨y, rfl, y0, y1, _, hg9, hr9⟩
          have y2 := y1 (by omega)
          have D9 := Lib.hid (D8.out.pick hg9 hr9)
          clear hg9 hr9 D8 y1
          obtain ⟨c0, f0⟩ := D9.out.ow.cellAt hk9
          go_wp2
          go_ret3
          exact (D9.out.set hk9 (y - 1)).got hlen hol (by omega)
        · have hkc : k ≤ rc := by omega
          go_wp2
          go_ret3
          exact ⟨g, cap2, jcap, _, k, ja, _, ts, js, _, rfl, hlen, hol, by omega, D8.out.row, D8.out.oj.mono (by omega), (ownI_take D8.out.ow (by omega)).mono (by have := D8.out.rB; omega), D8.out.bl⟩
        · go_wp2_with fail
          refine (pick_any w.heap.size _ 120 _ D8.out.rd (by omega)).mono ?_
          rintro e w9 ⟨y, rfl, y0, y1, _, hg9, hr9⟩
          have y2 := y1 (by omega)
          have D9 := Lib.hid (D8.out.pick hg9 hr9)
          obtain ⟨y, rfl⟩ : ∃ q : Nat, y = (q : Int) := ⟨y.toNat, by omega⟩
          have hy9 : y < 120 := by omega
          clear hg9 hr9 D8 y1
          obtain ⟨c0, f0⟩ := D9.out.ow.cellAt hk9
          obtain ⟨c1, f1⟩ := D9.out.ow.cellAt hy9
          obtain ⟨X, hX⟩ : ∃ X, X = runF js k := ⟨_, rfl⟩
          obtain ⟨Y, hY⟩ : ∃ Y, Y = runF js y := ⟨_, rfl⟩
          rw [← hX] at c0
          rw [← hY] at c1
          have D10 := Lib.hid ((D9.out.set hk9 Y).set hy9 X)
          by_cases hky : k = y
          · subst hky
            obtain rfl : X = Y := hX.trans hY.symm
            clear hX hY D9
            go_wp2
            go_ret3
            exact D10.out.got hlen hol (by omega)
          · clear hX hY D9
            go_wp2
            go_ret3
            exact D10.out.got hlen hol (by omega)
        · obtain ⟨c0, f0⟩ := D8.out.ow.cellAt hk9
          go_wp2
          go_ret3
          exact (D8.out.set hk9 (-1)).got hlen hol (by omega)
      · obtain rfl : v = 1 := by omega
        go_wp2
        go_ret3
        exact D6.out.got hlen hol (by omega)
  · have hv' : svB ts = false := by simpa using hv
    go_wp2_with fail
    refine (specSetValid_any _ _ _ _ HW.out (by omega)).mono ?_
    rintro e w3 ⟨rfl, b3⟩
    have HW3 := Lib.hid (HW.out.below b3)
    rw [hv']
    clear hv hv'
    have hs2 := B2.size
    go_wp2
    go_ret3
    have B3 : Below w.heap.size w w3 := B2.trans (b3.mono hs2)
    have hz := b3.size
    exact ⟨g, cap2, 0, 0, 0, some ⟨w3.heap.size, 0, none⟩, some ⟨w3.heap.size + 1, 0, none⟩, ts, [], fun _ => 0, rfl, hlen, by simp, by omega, (HW3.out.below (below_box _ _)).below (below_box _ _), ((OwnJ.empty w3).mono (by omega)).below (below_box _ _),
      by have h := OwnI.empty (w3.alloc (.cells #[] 41)) (fun _ => 0); rw [show (w3.alloc (.cells #[] 41)).heap.size = w3.heap.size + 1 by simp] at h; exact h.mono (by omega), (B3.alloc (by omega) _).alloc (by simp; omega) _⟩

end Go.Proofs.YtdhdodmpfbgliaaDoor
