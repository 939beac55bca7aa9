/- Contract of (replay).step: one tick of the checker. Conditions: as the theorem names; at most 60 jobs. -/
import Derived.Test.YtdhdodmpfbgliaaDoorChkMeth
namespace Go.Proofs.YtdhdodmpfbgliaaDoor
open Go.RowKit Go.Deep

theorem rd9_iff {js : List J4} {left : Nat → Nat} {now q : Nat} : rd9 js left now q = true ↔ jrel js q ≤ now ∧ 0 < left q := by simp [rd9]
theorem st_3 {js : List J4} {left : Nat → Nat} {k : Int} {now : Nat} (h1 : k ≠ -1) (h2 : ¬ ∃ q : Nat, k = q ∧ q < js.length ∧ rd9 js left now q = true) : ckT js left k now = 3 := by
  by_cases h3 : -1 ≤ k ∧ k < js.length
  · obtain ⟨q, rfl⟩ : ∃ q : Nat, k = (q : Int) := ⟨k.toNat, by omega⟩
    have hq : q < js.length := by omega
    refine ckT_early hq ?_
    by_cases a : now < jrel js q
    · exact .inl a
    · by_cases b : left q = 0
      · exact .inr b
      · exact absurd ⟨q, rfl, hq, rd9_iff.2 ⟨by omega, by omega⟩⟩ h2
  · exact ckT_not h3
theorem st_4 {js : List J4} {left : Nat → Nat} {now : Nat} (h : rdL js left now js.length ≠ []) : ckT js left (-1) now = 4 := by
  rw [ckT_idle, if_neg]
  intro hb
  obtain ⟨x, hx⟩ := List.exists_mem_of_ne_nil _ h
  obtain ⟨q, _, hq, hr⟩ := (rdL_mem js left now x _).1 hx
  exact best_none hb q hq (rd9_iff.1 hr)
theorem st_idle {js : List J4} {left : Nat → Nat} {now : Nat} (h : rdL js left now js.length = []) : ckT js left (-1) now = 0 := by
  rw [ckT_idle]
  cases hb : ckB js left now with
  | none => rfl
  | some b =>
    obtain ⟨h1, h2, h3, _⟩ := best_some hb
    have : (b : Int) ∈ rdL js left now js.length := (rdL_mem js left now _ _).2 ⟨b, rfl, h1, rd9_iff.2 ⟨h2, h3⟩⟩
    rw [h] at this
    cases this
theorem st_5 {js : List J4} {left : Nat → Nat} {q now : Nat} (hq : q < js.length) (hr : rd9 js left now q = true)
    (h : ∃ k, k < (rdL js left now js.length).length ∧ jdl js ((rdL js left now js.length).getD k 0).toNat < jdl js q) : ckT js left (q : Int) now = 5 := by
  obtain ⟨k, hk, hd⟩ := h
  obtain ⟨i, e, hi, hri⟩ := (rdL_mem js left now _ _).1 (getD_mem.1 ⟨k, hk, rfl⟩)
  rw [e] at hd
  simp only [Int.toNat_natCast] at hd
  have r1 := rd9_iff.1 hr
  have r2 := rd9_iff.1 hri
  cases hb : ckB js left now with
  | none => exact absurd r1 (best_none hb q hq)
  | some b =>
    rw [ckT_run hq (by omega) hb, if_pos]
    have := (best_some hb).2.2.2 i hi r2.1 r2.2
    omega
theorem st_0 {js : List J4} {left : Nat → Nat} {q now : Nat} (hq : q < js.length) (hr : rd9 js left now q = true)
    (h : ¬ ∃ k, k < (rdL js left now js.length).length ∧ jdl js ((rdL js left now js.length).getD k 0).toNat < jdl js q) : ckT js left (q : Int) now = 0 := by
  have r1 := rd9_iff.1 hr
  cases hb : ckB js left now with
  | none => exact absurd r1 (best_none hb q hq)
  | some b =>
    rw [ckT_run hq (by omega) hb, if_neg]
    intro hd
    obtain ⟨h1, h2, h3, _⟩ := best_some hb
    obtain ⟨k, hk, e⟩ := getD_mem.2 ((rdL_mem js left now (b : Int) _).2 ⟨b, rfl, h1, rd9_iff.2 ⟨h2, h3⟩⟩)
    exact h ⟨k, hk, by rw [e]; exact hd⟩
theorem rdL_ent (js : List J4) (left : Nat → Nat) (now : Nat) : Ent js (fun k => (rdL js left now js.length).getD k 0) (rdL js left now js.length).length := fun k hk => by
  obtain ⟨q, e, hq, _⟩ := (rdL_mem js left now _ _).1 (getD_mem.1 ⟨k, hk, rfl⟩)
  exact ⟨q, e, hq⟩
theorem rdL_has {js : List J4} {left : Nat → Nat} {now : Nat} {x : Int} : hasF (fun k => (rdL js left now js.length).getD k 0) x (rdL js left now js.length).length = true ↔ ∃ q : Nat, x = q ∧ q < js.length ∧ rd9 js left now q = true := by
  unfold hasF
  rw [decide_eq_true_eq, getD_mem, rdL_mem]

/-- What is left after a tick. -/
def lf9 (left : Nat → Nat) (k : Int) (i : Nat) : Nat := if k = (i : Int) then left i - 1 else left i
/-- The code of a tick, from what is left. -/
def stC (js : List J4) (left : Nat → Nat) (k : Int) (now : Nat) : Nat := if ckT js left k now = 0 then (if ckD js (lf9 left k) now = true then 6 else 0) else ckT js left k now
/-- A violation with this code, or no error. -/
def er9 (C : Nat) : Value := if C = 0 then .nilIface else .iface 69 (.agg #[.int .i64 (C : Int)])
/-- What a tick of the checker gives. -/
def St9 (w0 w : World) (la : Option Addr) (lcap : Nat) (js : List J4) (left : Nat → Nat) (k : Int) (now : Nat) (e : Ending) (w' : World) : Prop :=
  e = .returned (er9 (stC js left k now)) ∧ (stC js left k now = 0 → OwnI w' w0.heap.size (.slice la js.length lcap) js.length fun i => (lf9 left k i : Nat)) ∧ w.grownBy w' (Value.slice la js.length lcap).ownBlock
theorem grownBy_trans {a b c : World} {r : Option Nat} (h : a.grownBy b r) (k : b.grownBy c r) : a.grownBy c r :=
  ⟨k.os.trans h.os, k.tape.trans h.tape, k.output.trans h.output, Nat.le_trans h.size k.size, fun i hi hr => (k.block i (Nat.lt_of_lt_of_le hi h.size) hr).trans (h.block i hi hr)⟩
theorem grownBy_of_below {w w' : World} {r : Option Nat} (h : Below w.heap.size w w') : w.grownBy w' r := ⟨h.os, h.tape, h.output, h.size, fun k hk _ => h.block k hk⟩
theorem grownBy_setCell (w : World) (a : Addr) (u : Value) : w.grownBy (w.setCell a u) (some a.block) := ⟨rfl, rfl, rfl, by simp [World.setCell], fun k _ hr => Below.heap_setCell _ _ _ _ (fun e => hr (by rw [e]))⟩
theorem st9_mk {w0 w : World} {la : Option Addr} {lcap : Nat} {js : List J4} {left : Nat → Nat} {k : Int} {now C : Nat} {e : Ending} {w' : World} (hC : stC js left k now = C) (he : e = .returned (er9 C))
    (ho : C = 0 → OwnI w' w0.heap.size (.slice la js.length lcap) js.length fun i => (lf9 left k i : Nat)) (hg : w.grownBy w' (Value.slice la js.length lcap).ownBlock) : St9 w0 w la lcap js left k now e w' := by
  subst hC
  exact ⟨he, ho, hg⟩
theorem stC_bad {js : List J4} {left : Nat → Nat} {k : Int} {now C : Nat} (h : ckT js left k now = C) (hC : C ≠ 0) : stC js left k now = C := by
  unfold stC
  rw [h, if_neg hC]
theorem stC_late {js : List J4} {left : Nat → Nat} {k : Int} {now : Nat} (h : ckT js left k now = 0) (h2 : decide (∃ i, i < js.length ∧ jdl js i = now + 1 ∧ 0 < lf9 left k i) = true) : stC js left k now = 6 := by
  unfold stC
  rw [h, if_pos rfl]
  exact if_pos h2
theorem stC_fine {js : List J4} {left : Nat → Nat} {k : Int} {now : Nat} (h : ckT js left k now = 0) (h2 : decide (∃ i, i < js.length ∧ jdl js i = now + 1 ∧ 0 < lf9 left k i) = false) : stC js left k now = 0 := by
  unfold stC
  rw [h, if_pos rfl, if_neg]
  intro h3
  exact Bool.false_ne_true (h2.symm.trans h3)
theorem lf9_idle (left : Nat → Nat) (i : Nat) : lf9 left (-1) i = left i := by unfold lf9; rw [if_neg (by omega)]

set_option maxRecDepth 100000 in
set_option maxHeartbeats 8000000 in
/-- (replay).step. -/
theorem step9_any (w0 w : World) (ja la : Option Addr) (jcap lcap : Nat) (js : List J4) (left : Nat → Nat) (k : Int) (now : Nat) (hj : RowJ w0 ja js) (hb : Below w0.heap.size w0 w)
    (ho : OwnI w w0.heap.size (.slice la js.length lcap) js.length fun i => left i) (hle : ∀ i, i < js.length → left i ≤ 1000) (hN : NatJ js) (hn : js.length ≤ 60) (hnow : now ≤ 119) (hrd : ∀ i, i < js.length → jrel js i < jdl js i) :
    Calls Tryd.prog 64 #[.agg #[.slice ja js.length jcap, .slice la js.length lcap], .int .i64 (now : Int), .int .i64 k] w (St9 w0 w la lcap js left k now) := by
  have HJ := Lib.hid hj
  have HB := Lib.hid hb
  have HO := Lib.hid ho
  have HLE := Lib.hid hle
  have HN := Lib.hid hN
  have HRD := Lib.hid hrd
  have b0 := below_box w (.cells #[.slice ja js.length jcap, .slice la js.length lcap] 103)
  have HW := Lib.hid (And.intro b0 (show (w.alloc (.cells #[.slice ja js.length jcap, .slice la js.length lcap] 103)).cell? ⟨w.heap.size, 0, none⟩ = some (.slice ja js.length jcap) ∧ (w.alloc (.cells #[.slice ja js.length jcap, .slice la js.length lcap] 103)).cell? ⟨w.heap.size, 1, none⟩ = some (.slice la js.length lcap) ∧ w.heap.size < (w.alloc (.cells #[.slice ja js.length jcap, .slice la js.length lcap] 103)).heap.size from ⟨by simp [go_sem], by simp [go_sem], by simp⟩))
  clear hj hb ho hle hN hrd b0
  go_enter Tryd.func64, Tryd.ntmps64
  go_wp2_with fail
  generalize hW : w.alloc (.cells #[.slice ja js.length jcap, .slice la js.length lcap] 103) = W
  rw [hW] at HW
  clear hW
  refine (ready9_any ja la jcap lcap js left now W (HJ.out.below (HB.out.trans (HW.out.1.mono HB.out.size))) (HO.out.intF'.below HW.out.1) HN.out hn hnow).mono ?_
  rintro e w1 ⟨v, rfl, ol, b1⟩
  obtain ⟨va, vc, rfl⟩ := own_shape ol
  have HB1 := Lib.hid (HW.out.1.trans (b1.mono HW.out.1.size))
  have c0 := (b1.cell (p := ⟨w.heap.size, 0, none⟩) HW.out.2.2.2).trans HW.out.2.1
  have c1 := (b1.cell (p := ⟨w.heap.size, 1, none⟩) HW.out.2.2.2).trans HW.out.2.2.1
  have HC := Lib.hid (And.intro c0 (And.intro c1 (Nat.lt_of_lt_of_le HW.out.2.2.2 b1.size)))
  have HL := Lib.hid ol.intF'
  have hlen := rdL_len js left now js.length
  clear ol b1 c0 c1
  obtain ⟨l, hl⟩ : ∃ l, l = rdL js left now js.length := ⟨_, rfl⟩
  rw [← hl] at hlen HL ⊢
  have HLL := Lib.hid hl
  clear hl
  have hl60 : l.length ≤ 60 := by omega
  by_cases hk : k = -1
  · subst hk
    by_cases h0 : l.length = 0
    · have HS := Lib.hid (stC_fine (st_idle (show rdL js left now js.length = [] by rw [← HLL.out]; exact List.eq_nil_of_length_eq_zero h0)) (decide_eq_false (by
        rintro ⟨i, h1, h2, h3⟩
        rw [lf9_idle] at h3
        have h4 := (rdL_mem js left now (i : Int) js.length).2 ⟨i, rfl, h1, rd9_iff.2 ⟨by have := HRD.out i h1; omega, h3⟩⟩
        rw [← HLL.out, List.eq_nil_of_length_eq_zero h0] at h4
        cases h4)))
      go_wp2
      go_ret
      exact st9_mk HS.out rfl (fun _ => OwnI.congr (HO.out.below HB1.out) fun i _ => by rw [lf9_idle]) (grownBy_of_below HB1.out)
    · have HS := Lib.hid (stC_bad (st_4 (js := js) (left := left) (now := now) (show rdL js left now js.length ≠ [] by rw [← HLL.out]; intro e; rw [e] at h0; exact h0 rfl)) (by decide))
      have h0' : 0 < l.length := by omega
      go_wp2
      go_ret
      exact st9_mk HS.out rfl (fun e => by cases e) (grownBy_of_below HB1.out)
  · have hkb : (k != -1) = true := by simp; exact hk
    cases hh : hasF (fun i => l.getD i 0) k l.length with
    | false =>
      have HS := Lib.hid (stC_bad (st_3 (js := js) (left := left) (now := now) hk (by rw [← rdL_has, ← HLL.out, hh]; simp)) (by decide))
      have HH := Lib.hid hh
      clear hh
      go_wp2_with fail
      refine (contains9_any va vc l.length (fun i => l.getD i 0) k w1 HL.out (by omega)).mono ?_
      rintro e w' ⟨rfl, rfl⟩
      rw [HH.out]
      go_wp2
      go_ret
      exact st9_mk HS.out rfl (fun e => by cases e) (grownBy_of_below HB1.out)
    | true =>
      obtain ⟨q, rfl, hq, hr9⟩ := rdL_has.1 (show hasF (fun i => (rdL js left now js.length).getD i 0) k (rdL js left now js.length).length = true by rw [← HLL.out]; exact hh)
      have HH := Lib.hid hh
      have HQR := Lib.hid hr9
      clear hh hr9 hk hkb
      have hq0 : (0 : Int) ≤ q := by omega
      have hq1 : (q : Int) < js.length := by omega
      have hqn : ((q : Int) != -1) = true := by simp
      have hqe : ((q : Int) == -1) = false := by simp
      obtain ⟨g, cap', hv, hg0, -, -, -, -⟩ := HO.out.at (by omega)
      simp only [Value.slice.injEq, true_and] at hv
      obtain ⟨rfl, rfl⟩ := hv
      go_wp2_with fail
      refine (contains9_any va vc l.length (fun i => l.getD i 0) (q : Int) w1 HL.out (by omega)).mono ?_
      rintro e w' ⟨rfl, rfl⟩
      rw [HH.out]
      have RJ := Lib.hid (HJ.out.below (HB.out.trans (HB1.out.mono HB.out.size)))
      obtain ⟨bj, oj, rfl, hbj, x0, x1, x2, x3⟩ := RJ.out q hq
      rw [(HN.out q hq).2] at x2
      obtain ⟨D, hD⟩ : ∃ D, D = jdl js q := ⟨_, rfl⟩
      rw [← hD] at x2
      have HD := Lib.hid hD
      have c0 := HC.out.1
      have c1 := HC.out.2.1
      clear hD x0 x1 x3
      go_wp2
      refine wp_region_still_tail 8 (by kernel_rfl) (by kernel_rfl) ?_
      simp only [List.take_succ_cons, List.take_zero, List.drop_succ_cons, List.drop_zero]
      change wpStill _ _ w1.drew (fun a' => wpList _ _ _ _ a' w1.drew) _ _
      iterate 8 still_step
      refine wpStill_nil ?_
      have RJ2 := Lib.hid (HJ.out.below (HB.out.trans ((HB1.out.mono HB.out.size).trans (Below.refl _ _).drew)))
      have HLE2 := Lib.hid (HL.out.below (Below.refl w1.heap.size w1).drew)
      have HEN := Lib.hid (show Ent js (fun i => l.getD i 0) l.length by rw [HLL.out]; exact rdL_ent js left now)
      go_wp2_with fail
      refine (anyBefore9_any (some ⟨bj, oj, none⟩) (some ⟨g, 0, none⟩) va jcap lcap vc l.length js.length (fun i => l.getD i 0) js D w1.drew RJ2.out HLE2.out hl60 HEN.out HN.out).mono ?_
      rintro e w3 ⟨rfl, b3⟩
      have b3' : Below w1.heap.size w1 w3 := (Below.refl _ _).drew.trans b3
      have HB3 := Lib.hid (HB1.out.trans (b3'.mono HB1.out.size))
      have d0 := (b3'.cell (p := ⟨w.heap.size, 0, none⟩) HC.out.2.2).trans HC.out.1
      have d1 := (b3'.cell (p := ⟨w.heap.size, 1, none⟩) HC.out.2.2).trans HC.out.2.1
      clear b3 b3' c0 c1 RJ2 HLE2 HEN RJ
      cases hc : decide (∃ k, k < l.length ∧ jdl js (l.getD k 0).toNat < D) with
      | true =>
        have HS := Lib.hid (stC_bad (st_5 hq HQR.out (by rw [← HLL.out, ← HD.out]; exact of_decide_eq_true hc)) (by decide))
        clear hc
        go_wp2
        go_ret
        exact st9_mk HS.out rfl (fun e => by cases e) (grownBy_of_below HB3.out)
      | false =>
        have HT := Lib.hid (st_0 hq HQR.out (by rw [← HLL.out, ← HD.out]; exact of_decide_eq_false hc))
        clear hc
        obtain ⟨Q, hQ⟩ : ∃ Q, Q = left q := ⟨_, rfl⟩
        have HO3 := Lib.hid (HO.out.below HB3.out)
        obtain ⟨y0, yf, hg1, -⟩ := HO3.out.cellAt hq
        rw [← hQ] at y0
        have hQ0 : 0 < Q := by have := (rd9_iff.1 HQR.out).2; omega
        have hQ1 : Q ≤ 1000 := by rw [hQ]; exact HLE.out q hq
        have hw : IntKind.i64.wrap ((Q : Int) - 1) = (Q : Int) - 1 := IntWalk.i64_in _ (by omega)
        have hwn : IntKind.i64.wrap ((now : Int) + 1) = (now : Int) + 1 := IntWalk.i64_in _ (by omega)
        have HQ := Lib.hid hQ
        clear hQ
        have hgw : g < w.heap.size := (HO.out.cellAt hq).2.2.1
        have GR := grownBy_setCell w3 ⟨g, q, none⟩ (.int .i64 ((Q : Int) - 1))
        have e0 := GR.cell d0 (by simp; omega)
        have e1 := GR.cell d1 (by simp; omega)
        have HG4 := Lib.hid (grownBy_trans (grownBy_of_below HB3.out) GR)
        have HO4 := Lib.hid ((OwnI.set HO3.out hq ((Q : Int) - 1)).congr (f' := fun i => (lf9 left q i : Nat)) fun i _ => by
          unfold lf9
          by_cases e : i = q
          · subst e; rw [if_pos rfl, if_pos rfl, ← HQ.out]; omega
          · rw [if_neg e, if_neg (by omega)])
        have HB4 := Lib.hid ((HB.out.trans (HB3.out.mono HB.out.size)).setCell (p := ⟨g, q, none⟩) hg0 (.int .i64 ((Q : Int) - 1)))
        clear GR d0
        go_wp2_with fail
        generalize hW4 : w3.setCell ⟨g, q, none⟩ (.int .i64 ((Q : Int) - 1)) = W4
        rw [hW4] at HG4 HO4 HB4
        refine (anyLate9_any (some ⟨bj, oj, none⟩) (some ⟨g, 0, none⟩) jcap lcap js (lf9 left q) (now + 1) W4 (HJ.out.below HB4.out) HO4.out.intF' HN.out hn (by omega)).mono ?_
        rintro e w5 ⟨rfl, b5⟩
        have HG5 := Lib.hid (grownBy_trans HG4.out (grownBy_of_below b5))
        have HO5 := Lib.hid (HO4.out.below b5)
        clear b5 HO4 HG4 HB4 e0 e1 hW4 d1 y0 yf
        cases hc : decide (∃ i, i < js.length ∧ jdl js i = now + 1 ∧ 0 < lf9 left q i) with
        | true =>
          have HS := Lib.hid (stC_late HT.out hc)
          clear hc
          go_wp2
          go_ret
          exact st9_mk HS.out rfl (fun e => by cases e) HG5.out
        | false =>
          have HS := Lib.hid (stC_fine HT.out hc)
          clear hc
          go_wp2
          go_ret
          exact st9_mk HS.out rfl (fun _ => HO5.out) HG5.out

end Go.Proofs.YtdhdodmpfbgliaaDoor
