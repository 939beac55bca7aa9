/- Contracts of spec.l5Arrive, spec.l5Serve and spec.l5Pick: the steps of a constant bandwidth server. Conditions: the requests are legal, the numbers small. -/
import Derived.Test.YtlkibehieekceaaDrawRun5
namespace Go.Proofs.Ytlkibehieekceaa
open Go.RowKit Go.Deep

/-- The state of a server as a value, and cell by cell. -/
def svV (s : SV) : Value := .agg #[.int .i64 (s.left : Int), .int .i64 (s.dl : Int), .int .i64 (s.come : Int), .int .i64 (s.head : Int), .int .i64 (s.rest : Int)]
def svF (c : SV) : Nat → Value
  | 0 => .int .i64 (c.left : Int)
  | 1 => .int .i64 (c.dl : Int)
  | 2 => .int .i64 (c.come : Int)
  | 3 => .int .i64 (c.head : Int)
  | _ => .int .i64 (c.rest : Int)
/-- A server's numbers are small. -/
def SvLe (c : SV) : Prop := c.left ≤ 12 ∧ c.dl ≤ 4000 ∧ c.come ≤ 20 ∧ c.head ≤ 20 ∧ c.rest ≤ 20
/-- The three blocks of a step: the state, the server, the result. -/
structure Lv (w : World) (q p : Nat) (wr : World) (c : SV) : Prop where
  st : wr.rowIs w.heap.size 149 5 (svF c)
  sr : wr.rowIs (w.heap.size + 1) 137 2 (fun k => if k = 0 then .int .i64 (q : Int) else .int .i64 (p : Int))
  rs : ∃ f, wr.rowIs (w.heap.size + 2) 149 5 f
  be : Below w.heap.size w wr
variable {w wr : World} {q p : Nat} {c c' : SV}
theorem Lv.set (h : Lv w q p wr c) (i : Nat) (v : Value) (e : ∀ j, j < 5 → (if j = i then v else svF c j) = svF c' j) : Lv w q p (wr.setCell ⟨w.heap.size, i, none⟩ v) c' := by
  obtain ⟨f, hf⟩ := h.rs
  exact ⟨(h.st.set i v).congr e, h.sr.setOther (by show w.heap.size + 1 ≠ w.heap.size; omega) v, ⟨f, hf.setOther (by show w.heap.size + 2 ≠ w.heap.size; omega) v⟩, h.be.setCell (Nat.le_refl _) v⟩
theorem Lv.s0 (h : Lv w q p wr c) {v : Int} (x : Nat) (hv : v = x) : Lv w q p (wr.setCell ⟨w.heap.size, 0, none⟩ (.int .i64 v)) ⟨x, c.dl, c.come, c.head, c.rest⟩ := by
  subst hv
  refine h.set 0 _ fun j hj => ?_
  match j, hj with
  | 0, _ | 1, _ | 2, _ | 3, _ | 4, _ => rfl
theorem Lv.s1 (h : Lv w q p wr c) {v : Int} (x : Nat) (hv : v = x) : Lv w q p (wr.setCell ⟨w.heap.size, 1, none⟩ (.int .i64 v)) ⟨c.left, x, c.come, c.head, c.rest⟩ := by
  subst hv
  refine h.set 1 _ fun j hj => ?_
  match j, hj with
  | 0, _ | 1, _ | 2, _ | 3, _ | 4, _ => rfl
theorem Lv.s2 (h : Lv w q p wr c) {v : Int} (x : Nat) (hv : v = x) : Lv w q p (wr.setCell ⟨w.heap.size, 2, none⟩ (.int .i64 v)) ⟨c.left, c.dl, x, c.head, c.rest⟩ := by
  subst hv
  refine h.set 2 _ fun j hj => ?_
  match j, hj with
  | 0, _ | 1, _ | 2, _ | 3, _ | 4, _ => rfl
theorem Lv.s3 (h : Lv w q p wr c) {v : Int} (x : Nat) (hv : v = x) : Lv w q p (wr.setCell ⟨w.heap.size, 3, none⟩ (.int .i64 v)) ⟨c.left, c.dl, c.come, x, c.rest⟩ := by
  subst hv
  refine h.set 3 _ fun j hj => ?_
  match j, hj with
  | 0, _ | 1, _ | 2, _ | 3, _ | 4, _ => rfl
theorem Lv.s4 (h : Lv w q p wr c) {v : Int} (x : Nat) (hv : v = x) : Lv w q p (wr.setCell ⟨w.heap.size, 4, none⟩ (.int .i64 v)) ⟨c.left, c.dl, c.come, c.head, x⟩ := by
  subst hv
  refine h.set 4 _ fun j hj => ?_
  match j, hj with
  | 0, _ | 1, _ | 2, _ | 3, _ | 4, _ => rfl
theorem Lv.start (w : World) (q p : Nat) (c : SV) : Lv w q p (((w.alloc (.cells #[.int .i64 (c.left : Int), .int .i64 (c.dl : Int), .int .i64 (c.come : Int), .int .i64 (c.head : Int), .int .i64 (c.rest : Int)] 149)).alloc (.cells #[.int .i64 (q : Int), .int .i64 (p : Int)] 137)).alloc (.cells #[.int .i64 0, .int .i64 0, .int .i64 0, .int .i64 0, .int .i64 0] 149)) c := by
  have h1 : (w.alloc (.cells #[.int .i64 (c.left : Int), .int .i64 (c.dl : Int), .int .i64 (c.come : Int), .int .i64 (c.head : Int), .int .i64 (c.rest : Int)] 149)).rowIs w.heap.size 149 5 (svF c) := World.rowIs_alloc w _ _ _ fun i hi => by
    match i, hi with
    | 0, _ | 1, _ | 2, _ | 3, _ | 4, _ => rfl
  refine ⟨(h1.alloc _).alloc _, ?_, ⟨fun _ => .int .i64 0, ?_⟩, ((below_box w _).trans ((below_box _ _).mono (by simp))).trans ((below_box _ _).mono (by simp; omega))⟩
  · have h2 := World.rowIs_alloc (w.alloc (.cells #[.int .i64 (c.left : Int), .int .i64 (c.dl : Int), .int .i64 (c.come : Int), .int .i64 (c.head : Int), .int .i64 (c.rest : Int)] 149)) #[.int .i64 (q : Int), .int .i64 (p : Int)] 137 (fun k => if k = 0 then .int .i64 (q : Int) else .int .i64 (p : Int)) fun i hi => by
      match i, hi with
      | 0, _ | 1, _ => rfl
    simp only [World.alloc, Array.size_push] at h2 ⊢
    exact h2.alloc _
  · have h3 := World.rowIs_alloc ((w.alloc (.cells #[.int .i64 (c.left : Int), .int .i64 (c.dl : Int), .int .i64 (c.come : Int), .int .i64 (c.head : Int), .int .i64 (c.rest : Int)] 149)).alloc (.cells #[.int .i64 (q : Int), .int .i64 (p : Int)] 137)) #[.int .i64 0, .int .i64 0, .int .i64 0, .int .i64 0, .int .i64 0] 149 (fun _ => .int .i64 0) fun i hi => by
      match i, hi with
      | 0, _ | 1, _ | 2, _ | 3, _ | 4, _ => rfl
    simp only [World.alloc, Array.size_push] at h3 ⊢
    exact h3
theorem below3 (w : World) (a b c : Obj) : Below w.heap.size w (((w.alloc a).alloc b).alloc c) := ((below_box w _).trans ((below_box _ _).mono (by simp))).trans ((below_box _ _).mono (by simp; omega))
theorem take_a {x now : Nat} (h : c.head = c.come) (hc : ((c.dl : Int) - now) * q ≤ (c.left : Int) * p) : c.take q p x now = ⟨q, now + p, c.come + 1, c.head, x⟩ := by
  unfold SV.take
  rw [if_pos h, if_pos hc]
theorem take_b {x now : Nat} (h : c.head = c.come) (hc : ¬ ((c.dl : Int) - now) * q ≤ (c.left : Int) * p) : c.take q p x now = ⟨c.left, c.dl, c.come + 1, c.head, x⟩ := by
  unfold SV.take
  rw [if_pos h, if_neg hc]
theorem take_c {x now : Nat} (h : ¬ c.head = c.come) : c.take q p x now = ⟨c.left, c.dl, c.come + 1, c.head, c.rest⟩ := by
  unfold SV.take
  rw [if_neg h]

set_option maxRecDepth 100000 in
set_option maxHeartbeats 4000000 in
/-- spec.l5Arrive. -/
theorem l5Arrive_any (la : Option Addr) (lcap : Nat) (s : SV) (q p now : Nat) (al : List A2) (w : World) (hr : Row2 w la al) (ha : alB al = true) (hs : SvLe s) (hc : s.come ≤ al.length) (hq : q ≤ 12) (hp : p ≤ 12) (hn : now ≤ 119) :
    Calls Try.prog 118 #[svV s, .agg #[.int .i64 (q : Int), .int .i64 (p : Int)], .slice la al.length lcap, .int .i64 (now : Int)] w fun e w' => e = .returned (svV (s.arr q p al now)) ∧ Below w.heap.size w w' := by
  have HR := Lib.hid hr
  have HA := Lib.hid ha
  have hal := (alB_iff.1 ha).1
  have H0 := Lib.hid (And.intro (Lv.start w q p s) (And.intro hs hc))
  clear hr ha hs hc
  unfold svV
  go_enter Try.func118, Try.ntmps118
  go_wp2
  go_loopg [] (al.length - s.come) (fun m wr => ∃ c : SV, m = al.length - c.come ∧ Lv w q p wr c ∧ SvLe c ∧ c.come ≤ al.length ∧ c.arr q p al now = s.arr q p al now)
  case atStart => exact ⟨s, rfl, H0.out.1, H0.out.2.1, H0.out.2.2, rfl⟩
  case round =>
    obtain ⟨c, hm, hL, hle, hcl, harr⟩ := hrel
    have HK := Lib.hid hm
    have HL := Lib.hid hL
    have HARR := Lib.hid harr
    have HLE := Lib.hid hle
    obtain ⟨l1, l2, l3, l4, l5⟩ := hle
    have c0 := hL.st.cell (i := 0) (by omega)
    have c1 := hL.st.cell (i := 1) (by omega)
    have c2 := hL.st.cell (i := 2) (by omega)
    have c3 := hL.st.cell (i := 3) (by omega)
    have c4 := hL.st.cell (i := 4) (by omega)
    have f0 := hL.st.frozen 0
    have f1 := hL.st.frozen 1
    have f2 := hL.st.frozen 2
    have f4 := hL.st.frozen 4
    have r0 := hL.sr.cell (i := 0) (by omega)
    have r1 := hL.sr.cell (i := 1) (by omega)
    simp only [svF, if_neg (show ¬ 1 = 0 by omega)] at c0 c1 c2 c3 c4 r0 r1
    simp only [if_true] at r0
    clear hm hL harr H0
    by_cases hlt : c.come < al.length
    · obtain ⟨b, off, rfl, hbs, u0, u1⟩ := HR.out c.come hlt
      have x0 := (HL.out.be.cell (p := ⟨b, off + c.come * 2, none⟩) hbs).trans u0
      have x1 := (HL.out.be.cell (p := ⟨b, off + c.come * 2 + 1, none⟩) hbs).trans u1
      have hbn : ¬ b = w.heap.size := by omega
      have hbn2 : ¬ w.heap.size = b := by omega
      clear u0 u1
      have hav := (alB_iff.1 HA.out).2 c.come hlt
      have hT : (ab al c.come).1 = (aT al c.come : Nat) := by rw [ab_T]; omega
      have hX : (ab al c.come).2 = (aX al c.come : Nat) := by rw [ab_X]; omega
      rw [hT] at x0
      rw [hX] at x1
      obtain ⟨T, hTT⟩ : ∃ T, T = aT al c.come := ⟨_, rfl⟩
      obtain ⟨X, hXX⟩ : ∃ X, X = aX al c.come := ⟨_, rfl⟩
      rw [← hTT] at x0
      rw [← hXX] at x1
      have hXb : X ≤ 20 := by rw [hXX]; omega
      have HTX := Lib.hid (And.intro hTT hXX)
      clear hav hT hX hTT hXX
      have hlt' : (c.come : Int) < al.length := by omega
      have hc0 : (0 : Int) ≤ c.come := by omega
      by_cases hTn : T = now
      · have hTb : ((T : Int) == (now : Int)) = true := beq_iff_eq.2 (by omega)
        have HSTEP := Lib.hid (arr_step (q := q) (p := p) (now := now) (al := al) (s := c) ⟨hlt, by rw [← HTX.out.1]; exact hTn⟩)
        rw [← HTX.out.2, HARR.out] at HSTEP
        clear hTn
        by_cases hh : c.head = c.come
        · have hhb : ((c.head : Int) == (c.come : Int)) = true := beq_iff_eq.2 (by omega)
          have HH := Lib.hid hh
          clear hh
          have q1 : (0 : Int) ≤ (c.left : Int) * p := Int.mul_nonneg (by omega) (by omega)
          have q2 : (c.left : Int) * p ≤ 12 * 12 := Int.mul_le_mul (by omega) (by omega) (by omega) (by omega)
          have q3 : ((c.dl : Int) - now) * q ≤ 4000 * 12 := by
            by_cases hn : (now : Int) ≤ c.dl
            · exact Int.mul_le_mul (by omega) (by omega) (by omega) (by omega)
            · exact Int.le_trans (Int.mul_nonpos_of_nonpos_of_nonneg (by omega) (by omega)) (by omega)
          have q4 : -(119 * 12) ≤ ((c.dl : Int) - now) * q := by
            have h1 : (-119 : Int) * q ≤ ((c.dl : Int) - now) * q := Int.mul_le_mul_of_nonneg_right (by omega) (by omega)
            omega
          by_cases hcd : ((c.dl : Int) - now) * q ≤ (c.left : Int) * p
          · have HTK := Lib.hid (take_a (x := X) HH.out hcd)
            rw [HTK.out] at HSTEP
            go_wp2
            go_roundg (gk - 1)
            case measure => have := HK.out; omega
            case rel => exact ⟨⟨q, now + p, c.come + 1, c.head, X⟩, by have := HK.out; show gk - 1 = al.length - (c.come + 1); omega, (((HL.out.s1 (now + p) (by omega)).s0 q rfl).s4 X rfl).s2 (c.come + 1) (by omega), ⟨hq, by show now + p ≤ 4000; omega, by show c.come + 1 ≤ 20; omega, l4, hXb⟩, by show c.come + 1 ≤ al.length; omega, HSTEP.out.symm⟩
          · have HTK := Lib.hid (take_b (x := X) HH.out hcd)
            rw [HTK.out] at HSTEP
            go_wp2
            go_roundg (gk - 1)
            case measure => have := HK.out; omega
            case rel => exact ⟨⟨c.left, c.dl, c.come + 1, c.head, X⟩, by have := HK.out; show gk - 1 = al.length - (c.come + 1); omega, (HL.out.s4 X rfl).s2 (c.come + 1) (by omega), ⟨l1, l2, by show c.come + 1 ≤ 20; omega, l4, hXb⟩, by show c.come + 1 ≤ al.length; omega, HSTEP.out.symm⟩
        · have hhb : ((c.head : Int) == (c.come : Int)) = false := beq_eq_false_iff_ne.2 (by omega)
          have HTK := Lib.hid (take_c (q := q) (p := p) (x := X) (now := now) hh)
          rw [HTK.out] at HSTEP
          clear hh
          go_wp2
          go_roundg (gk - 1)
          case measure => have := HK.out; omega
          case rel => exact ⟨⟨c.left, c.dl, c.come + 1, c.head, c.rest⟩, by have := HK.out; show gk - 1 = al.length - (c.come + 1); omega, HL.out.s2 (c.come + 1) (by omega), ⟨l1, l2, by show c.come + 1 ≤ 20; omega, l4, l5⟩, by show c.come + 1 ≤ al.length; omega, HSTEP.out.symm⟩
      · have hTb : ((T : Int) == (now : Int)) = false := beq_eq_false_iff_ne.2 (by omega)
        have HSTOP := Lib.hid (arr_stop (q := q) (p := p) (now := now) (al := al) (s := c) (fun h => hTn (by rw [HTX.out.1]; exact h.2)))
        clear hTn
        rw [HARR.out] at HSTOP
        obtain ⟨f, hf⟩ := HL.out.rs
        have z0 := hf.frozen 0
        have z1 := hf.frozen 1
        have z2 := hf.frozen 2
        have z3 := hf.frozen 3
        have z4 := hf.frozen 4
        have v0 := hf.cell (i := 0) (by omega)
        have v1 := hf.cell (i := 1) (by omega)
        have v2 := hf.cell (i := 2) (by omega)
        have v3 := hf.cell (i := 3) (by omega)
        have v4 := hf.cell (i := 4) (by omega)
        have sz := hf.lt
        go_wp2
        refine bodyPost_ret (v := svV c) ?_ rfl ⟨by rw [HSTOP.out]; rfl, ?_⟩
        · simp [results, Try.results118, go_sem, svV, v0, v1, v2, v3, v4]
        · repeat (first | exact HL.out.be | refine Below.setCell ?_ (by first | (simp; done) | (simp; omega)) _)
    · have hlt' : ¬ (c.come : Int) < al.length := by omega
      have HSTOP := Lib.hid (arr_stop (q := q) (p := p) (now := now) (al := al) (s := c) (fun h => hlt h.1))
      rw [HARR.out] at HSTOP
      obtain ⟨f, hf⟩ := HL.out.rs
      have z0 := hf.frozen 0
      have z1 := hf.frozen 1
      have z2 := hf.frozen 2
      have z3 := hf.frozen 3
      have z4 := hf.frozen 4
      have v0 := hf.cell (i := 0) (by omega)
      have v1 := hf.cell (i := 1) (by omega)
      have v2 := hf.cell (i := 2) (by omega)
      have v3 := hf.cell (i := 3) (by omega)
      have v4 := hf.cell (i := 4) (by omega)
      have sz := hf.lt
      go_wp2
      refine bodyPost_ret (v := svV c) ?_ rfl ⟨by rw [HSTOP.out]; rfl, ?_⟩
      · simp [results, Try.results118, go_sem, svV, v0, v1, v2, v3, v4]
      · repeat (first | exact HL.out.be | refine Below.setCell ?_ (by first | (simp; done) | (simp; omega)) _)

set_option maxRecDepth 100000 in
set_option maxHeartbeats 8000000 in
/-- spec.l5Serve. -/
theorem l5Serve_any (la : Option Addr) (lcap : Nat) (s : SV) (q p : Nat) (al : List A2) (w : World) (hr : Row2 w la al) (ha : alB al = true) (hs : SvLe s) (hc : s.come ≤ al.length) (hl1 : 1 ≤ s.left) (hr1 : 1 ≤ s.rest) (hhc : s.head < s.come) (hp : p ≤ 12) :
    Calls Try.prog 120 #[svV s, .agg #[.int .i64 (q : Int), .int .i64 (p : Int)], .slice la al.length lcap] w fun e w' => e = .returned (svV (s.serve q p al)) ∧ Below w.heap.size w w' := by
  obtain ⟨left, dl, come, head, rest⟩ := s
  obtain ⟨l1, l2, l3, l4, l5⟩ := hs
  simp only at l1 l2 l3 l4 l5 hc hl1 hr1 hhc
  obtain ⟨L, rfl⟩ : ∃ L, left = L + 1 := ⟨left - 1, by omega⟩
  obtain ⟨R, rfl⟩ : ∃ R, rest = R + 1 := ⟨rest - 1, by omega⟩
  have HR := Lib.hid hr
  have HA := Lib.hid ha
  have hal := (alB_iff.1 ha).1
  clear hr ha
  unfold svV
  by_cases hR : R = 0
  · subst hR
    by_cases hn : head + 1 < come
    · have hn' : (head : Int) + 1 < come := by omega
      obtain ⟨b, off, rfl, hbs, -, x1⟩ := HR.out (head + 1) (by omega)
      have hb1 : ¬ b = w.heap.size := by omega
      have hb2 : ¬ b = w.heap.size + 1 := by omega
      have hb3 : ¬ b = w.heap.size + 1 + 1 := by omega
      have hb4 : ¬ w.heap.size = b := by omega
      have hbs2 : b < w.heap.size + 1 := by omega
      have hbs3 : b < w.heap.size + 1 + 1 := by omega
      have hav := (alB_iff.1 HA.out).2 (head + 1) (by omega)
      have hX : (ab al (head + 1)).2 = (aX al (head + 1) : Nat) := by rw [ab_X]; omega
      rw [hX] at x1
      obtain ⟨X, hXX⟩ : ∃ X, X = aX al (head + 1) := ⟨_, rfl⟩
      rw [← hXX] at x1
      have HXX := Lib.hid hXX
      clear hav hX hXX
      have hi0 : (0 : Int) ≤ (head : Int) + 1 := by omega
      have hi1 : (head : Int) + 1 < al.length := by omega
      by_cases hL : L = 0
      · subst hL
        have HE := Lib.hid (show (SV.mk 1 dl come head 1).serve q p al = ⟨q, dl + p, come, head + 1, X⟩ by simp [SV.serve, hn, HXX.out])
        go_enter Try.func120, Try.ntmps120
        go_wp2
        refine bodyPost_ret (v := svV ⟨q, dl + p, come, head + 1, X⟩) ?_ rfl ⟨by rw [HE.out]; rfl, ?_⟩
        · simp [results, Try.results120, go_sem, svV]
        · repeat (first | exact below3 _ _ _ _ | refine Below.setCell ?_ (by first | (simp; done) | (simp; omega)) _)
      · have HE := Lib.hid (show (SV.mk (L + 1) dl come head 1).serve q p al = ⟨L, dl, come, head + 1, X⟩ by simp [SV.serve, hn, HXX.out, hL])
        have hL' : ((L : Int) == 0) = false := beq_eq_false_iff_ne.2 (by omega)
        have hL'' : (L == 0) = false := beq_eq_false_iff_ne.2 hL
        go_enter Try.func120, Try.ntmps120
        go_wp2
        refine bodyPost_ret (v := svV ⟨L, dl, come, head + 1, X⟩) ?_ rfl ⟨by rw [HE.out]; rfl, ?_⟩
        · simp [results, Try.results120, go_sem, svV]
        · repeat (first | exact below3 _ _ _ _ | refine Below.setCell ?_ (by first | (simp; done) | (simp; omega)) _)
    · have hn' : ¬ (head : Int) + 1 < come := by omega
      by_cases hL : L = 0
      · subst hL
        have HE := Lib.hid (show (SV.mk 1 dl come head 1).serve q p al = ⟨q, dl + p, come, head + 1, 0⟩ by simp [SV.serve, hn])
        go_enter Try.func120, Try.ntmps120
        go_wp2
        refine bodyPost_ret (v := svV ⟨q, dl + p, come, head + 1, 0⟩) ?_ rfl ⟨by rw [HE.out]; rfl, ?_⟩
        · simp [results, Try.results120, go_sem, svV]
        · repeat (first | exact below3 _ _ _ _ | refine Below.setCell ?_ (by first | (simp; done) | (simp; omega)) _)
      · have HE := Lib.hid (show (SV.mk (L + 1) dl come head 1).serve q p al = ⟨L, dl, come, head + 1, 0⟩ by simp [SV.serve, hn, hL])
        have hL' : ((L : Int) == 0) = false := beq_eq_false_iff_ne.2 (by omega)
        have hL'' : (L == 0) = false := beq_eq_false_iff_ne.2 hL
        go_enter Try.func120, Try.ntmps120
        go_wp2
        refine bodyPost_ret (v := svV ⟨L, dl, come, head + 1, 0⟩) ?_ rfl ⟨by rw [HE.out]; rfl, ?_⟩
        · simp [results, Try.results120, go_sem, svV]
        · repeat (first | exact below3 _ _ _ _ | refine Below.setCell ?_ (by first | (simp; done) | (simp; omega)) _)
  · by_cases hL : L = 0
    · subst hL
      have HE := Lib.hid (show (SV.mk 1 dl come head (R + 1)).serve q p al = ⟨q, dl + p, come, head, R⟩ by simp [SV.serve, hR])
      have hR' : ((R : Int) == 0) = false := beq_eq_false_iff_ne.2 (by omega)
      have hR'' : (R == 0) = false := beq_eq_false_iff_ne.2 hR
      go_enter Try.func120, Try.ntmps120
      go_wp2
      refine bodyPost_ret (v := svV ⟨q, dl + p, come, head, R⟩) ?_ rfl ⟨by rw [HE.out]; rfl, ?_⟩
      · simp [results, Try.results120, go_sem, svV]
      · repeat (first | exact below3 _ _ _ _ | refine Below.setCell ?_ (by first | (simp; done) | (simp; omega)) _)
    · have HE := Lib.hid (show (SV.mk (L + 1) dl come head (R + 1)).serve q p al = ⟨L, dl, come, head, R⟩ by simp [SV.serve, hR, hL])
      have hL' : ((L : Int) == 0) = false := beq_eq_false_iff_ne.2 (by omega)
      have hL'' : (L == 0) = false := beq_eq_false_iff_ne.2 hL
      have hR' : ((R : Int) == 0) = false := beq_eq_false_iff_ne.2 (by omega)
      have hR'' : (R == 0) = false := beq_eq_false_iff_ne.2 hR
      go_enter Try.func120, Try.ntmps120
      go_wp2
      refine bodyPost_ret (v := svV ⟨L, dl, come, head, R⟩) ?_ rfl ⟨by rw [HE.out]; rfl, ?_⟩
      · simp [results, Try.results120, go_sem, svV]
      · repeat (first | exact below3 _ _ _ _ | refine Below.setCell ?_ (by first | (simp; done) | (simp; omega)) _)

end Go.Proofs.Ytlkibehieekceaa
