/- Contracts of the reference's l9Tick and CheckSchedule, and of laws.executed. Conditions: the slices hold what is said; what each theorem names. -/
import Derived.Test.YtdhdodmpfbgliaaDoorChk
import Derived.Test.YtdhdodmpfbgliaaDoorRunAll
import Derived.Test.YtdhdodmpfbgliaaDoorMem
import Derived.BigQuiet
import Derived.BigRegion
namespace Go.Proofs.YtdhdodmpfbgliaaDoor
open Go.RowKit Go.Deep

/-- The jobs' numbers are natural ones. -/
def NatJ (js : List J4) : Prop := ∀ i, i < js.length → (jb js i).2.1 = (jrel js i : Nat) ∧ (jb js i).2.2.1 = (jdl js i : Nat)
theorem ckT_not {js : List J4} {left : Nat → Nat} {k : Int} {now : Nat} (h : ¬ (-1 ≤ k ∧ k < js.length)) : ckT js left k now = 3 := if_pos h
theorem ckT_early {js : List J4} {left : Nat → Nat} {q now : Nat} (h : q < js.length) (h2 : now < jrel js q ∨ left q = 0) : ckT js left (q : Int) now = 3 := by
  unfold ckT
  rw [if_neg (by omega), if_pos ⟨by omega, by simpa using h2⟩]
theorem ckT_idle {js : List J4} {left : Nat → Nat} {now : Nat} : ckT js left (-1) now = if ckB js left now = none then 0 else 4 := by
  unfold ckT
  rw [if_neg (by omega), if_neg (by omega), if_pos (by omega)]
theorem ckT_run {js : List J4} {left : Nat → Nat} {q now b : Nat} (h : q < js.length) (h2 : ¬ (now < jrel js q ∨ left q = 0)) (hb : ckB js left now = some b) : ckT js left (q : Int) now = if jdl js b < jdl js q then 5 else 0 := by
  unfold ckT
  rw [if_neg (by omega), if_neg (by rintro ⟨_, h3⟩; exact h2 (by simpa using h3)), if_neg (by omega), hb]
  simp

theorem ckT_ge {js : List J4} {left : Nat → Nat} {k : Int} {now : Nat} (h : ckT js left k now = 0) : -1 ≤ k := by
  unfold ckT at h
  split at h
  · simp at h
  · omega

set_option maxRecDepth 100000 in
set_option maxHeartbeats 4000000 in
/-- spec.l9Tick. -/
theorem l9Tick_any (ja la : Option Addr) (jcap lcap : Nat) (js : List J4) (left : Nat → Nat) (k : Int) (now : Nat) (w : World) (hj : RowJ w ja js) (hl : IntF w la js.length fun i => left i) (hN : NatJ js) (hn : js.length ≤ 60) (_ : now ≤ 119) :
    Calls Tryd.prog 43 #[.slice ja js.length jcap, .slice la js.length lcap, .int .i64 k, .int .i64 (now : Int)] w fun e w' => e = .returned (.int .i64 (ckT js left k now : Nat)) ∧ Below w.heap.size w w' := by
  have HJ := Lib.hid hj
  have HL := Lib.hid hl
  have HN := Lib.hid hN
  have hw : IntKind.i64.wrap ((js.length : Int) - 1) = (js.length : Int) - 1 := IntWalk.i64_in _ (by omega)
  clear hj hl hN
  obtain ⟨C, hC⟩ : ∃ C, C = ckT js left k now := ⟨_, rfl⟩
  rw [← hC]
  have HC := Lib.hid hC
  clear hC
  by_cases hin : -1 ≤ k ∧ k < js.length
  · obtain ⟨hin1, hin2⟩ := hin
    by_cases hk : k < 0
    · obtain rfl : k = -1 := by omega
      go_enter Tryd.func43, Tryd.ntmps43
      go_wp2_with fail
      refine (l1In_any _ _ _ _).mono ?_
      rintro e w' ⟨rfl, rfl⟩
      rw [show inB (-1) (-1) ((js.length : Int) - 1) = true from decide_eq_true (by omega)]
      go_wp2_with fail
      refine (l3Deadlines_any ja jcap js _ HJ.out hn).mono ?_
      rintro e w1 ⟨v, rfl, o1, b1⟩
      obtain ⟨ka, kc, rfl, hki, -, -⟩ := o1.intF
      have HKI := Lib.hid (hki.congr fun i hi => (HN.out i hi).2)
      have HB1 := Lib.hid b1
      clear o1 hki b1
      go_wp2_with fail
      refine (l3Best_any ja la ka jcap lcap kc js (jrel js) left (jdl js) now _ (HJ.out.below HB1.out) (fun i hi => (HN.out i hi).1) (HL.out.below HB1.out) HKI.out hn).mono ?_
      rintro e w2 ⟨rfl, b2⟩
      have HB2 := Lib.hid (HB1.out.trans (b2.mono HB1.out.size))
      clear b2
      cases hb : best (jrel js) left (jdl js) now js.length with
      | none =>
        have hc : C = 0 := by rw [HC.out, ckT_idle, if_pos (show ckB js left now = none from hb)]
        subst hc
        simp only [optI]
        clear hb
        go_wp2
        go_quiet (fail)
        go_wp2
        go_ret
        exact ⟨rfl, below_drewN' HB2.out _⟩
      | some b =>
        have hc : C = 4 := by rw [HC.out, ckT_idle, if_neg (by unfold ckB; rw [hb]; simp)]
        subst hc
        rw [show optI (some b) = (b : Int) from rfl]
        clear hb
        go_wp2
        go_ret
        exact ⟨rfl, HB2.out⟩
    · obtain ⟨q, rfl⟩ : ∃ q : Nat, k = (q : Int) := ⟨k.toNat, by omega⟩
      have hq : q < js.length := by omega
      have hq0 : (0 : Int) ≤ q := by omega
      obtain ⟨b, off, rfl, hb, -, y1, y2, -⟩ := HJ.out q hq
      obtain ⟨lb, lo, rfl, hlb, z0⟩ := HL.out q hq
      rw [(HN.out q hq).1] at y1
      rw [(HN.out q hq).2] at y2
      obtain ⟨R, hR⟩ : ∃ R, R = jrel js q := ⟨_, rfl⟩
      obtain ⟨D, hD⟩ : ∃ D, D = jdl js q := ⟨_, rfl⟩
      obtain ⟨Q, hQ⟩ : ∃ Q, Q = left q := ⟨_, rfl⟩
      simp only at z0
      rw [← hR] at y1
      rw [← hD] at y2
      rw [← hQ] at z0
      have HR := Lib.hid hR
      have HD := Lib.hid hD
      have HQ := Lib.hid hQ
      clear hR hD hQ hin1 hk
      by_cases h1 : now < R
      · have hc : C = 3 := by rw [HC.out]; exact ckT_early hq (.inl (by rw [← HR.out]; exact h1))
        subst hc
        go_enter Tryd.func43, Tryd.ntmps43
        go_wp2_with fail
        refine (l1In_any _ _ _ _).mono ?_
        rintro e w' ⟨rfl, rfl⟩
        rw [show inB (q : Int) (-1) ((js.length : Int) - 1) = true from decide_eq_true (by omega)]
        go_wp2
        go_ret
        exact ⟨rfl, Below.refl _ _⟩
      · by_cases h2 : Q = 0
        · subst h2
          have hc : C = 3 := by rw [HC.out]; exact ckT_early hq (.inr HQ.out.symm)
          subst hc
          go_enter Tryd.func43, Tryd.ntmps43
          go_wp2_with fail
          refine (l1In_any _ _ _ _).mono ?_
          rintro e w' ⟨rfl, rfl⟩
          rw [show inB (q : Int) (-1) ((js.length : Int) - 1) = true from decide_eq_true (by omega)]
          go_wp2
          go_ret
          exact ⟨rfl, Below.refl _ _⟩
        · have hq2 : ((Q : Int) == 0) = false := by simp; omega
          have HE := Lib.hid (show ¬ (now < jrel js q ∨ left q = 0) by rw [← HR.out, ← HQ.out]; omega)
          go_enter Tryd.func43, Tryd.ntmps43
          go_wp2_with fail
          refine (l1In_any _ _ _ _).mono ?_
          rintro e w' ⟨rfl, rfl⟩
          rw [show inB (q : Int) (-1) ((js.length : Int) - 1) = true from decide_eq_true (by omega)]
          go_wp2_with fail
          refine (l3Deadlines_any _ jcap js _ HJ.out hn).mono ?_
          rintro e w1 ⟨v, rfl, o1, b1⟩
          obtain ⟨ka, kc, rfl, hki, -, -⟩ := o1.intF
          have HKI := Lib.hid (hki.congr fun i hi => (HN.out i hi).2)
          have HB1 := Lib.hid b1
          clear o1 hki b1
          go_wp2_with fail
          refine (l3Best_any _ _ ka jcap lcap kc js (jrel js) left (jdl js) now _ (HJ.out.below HB1.out) (fun i hi => (HN.out i hi).1) (HL.out.below HB1.out) HKI.out hn).mono ?_
          rintro e w2 ⟨rfl, b2⟩
          have HB2 := Lib.hid (HB1.out.trans (b2.mono HB1.out.size))
          clear b2
          cases hbs : best (jrel js) left (jdl js) now js.length with
          | none => exact absurd ⟨by have := HE.out; omega, by have := HE.out; omega⟩ (best_none hbs q hq)
          | some m =>
            have hm := (best_some hbs).1
            have hm0 : (0 : Int) ≤ m := by omega
            have hm1 : (m : Int) < js.length := by omega
            have HCC := Lib.hid (ckT_run hq HE.out hbs)
            rw [show optI (some m) = (m : Int) from rfl]
            have RJ2 := HJ.out.below HB2.out
            obtain ⟨b', off', e', hb', -, -, x2, -⟩ := RJ2 m hm
            simp only [Option.some.injEq, Addr.mk.injEq, and_true] at e'
            obtain ⟨rfl, rfl⟩ := e'
            rw [(HN.out m hm).2] at x2
            have y22 := (HB2.out.cell (p := ⟨b, off + q * 4 + 2, none⟩) hb).trans y2
            obtain ⟨M, hM⟩ : ∃ M, M = jdl js m := ⟨_, rfl⟩
            rw [← hM] at x2
            have HM := Lib.hid hM
            clear hbs hM RJ2 y1 y2 z0
            by_cases h3 : M < D
            · have hc : C = 5 := by rw [HC.out, HCC.out, if_pos (by rw [← HM.out, ← HD.out]; exact h3)]
              subst hc
              have d3 : decide (M < D) = true := decide_eq_true h3
              go_wp2
              go_quiet (fail)
              go_wp2
              go_ret
              exact ⟨rfl, below_drewN' HB2.out _⟩
            · have hc : C = 0 := by rw [HC.out, HCC.out, if_neg (by rw [← HM.out, ← HD.out]; exact h3)]
              subst hc
              have d3 : decide (M < D) = false := decide_eq_false h3
              go_wp2
              go_quiet (fail)
              go_wp2
              go_ret
              exact ⟨rfl, below_drewN' HB2.out _⟩
  · have hc : C = 3 := by rw [HC.out]; exact ckT_not hin
    subst hc
    go_enter Tryd.func43, Tryd.ntmps43
    go_wp2_with fail
    refine (l1In_any _ _ _ _).mono ?_
    rintro e w' ⟨rfl, rfl⟩
    rw [show inB k (-1) ((js.length : Int) - 1) = false from decide_eq_false (by omega)]
    go_wp2
    go_ret
    exact ⟨rfl, Below.refl _ _⟩

theorem leg_natJ {ts : List T3} {js : List J4} (h : legB ts js = true) : NatJ js ∧ (∀ i, i < js.length → (jb js i).2.2.2 = (jex js i : Nat) ∧ jex js i ≤ 1000 ∧ 1 ≤ jdl js i ∧ 1 ≤ jex js i) ∧ js.length ≤ 60 := by
  obtain ⟨hv, hl, h1⟩ := legB_iff.1 h
  have hall := (sv_all hv).1
  have key : ∀ i, i < js.length → ((jb js i).2.1 = (jrel js i : Nat) ∧ (jb js i).2.2.1 = (jdl js i : Nat)) ∧ (jb js i).2.2.2 = (jex js i : Nat) ∧ jex js i ≤ 1000 ∧ 1 ≤ jdl js i ∧ 1 ≤ jex js i := fun i hi => by
    have h2 := h1 i hi
    obtain ⟨a1, a2, a3, a4, a5, a6, a7⟩ := h2.nat hall
    have hb := tv_bd a2
    obtain ⟨_, ⟨b1, _⟩, _, b3, ⟨b4, _⟩, _⟩ := h2
    simp only [jrel, jex, jdl] at *
    omega
  exact ⟨fun i hi => (key i hi).1, fun i hi => (key i hi).2, hl⟩

theorem ckG_before {js : List J4} {r : Nat → Int} {now : Nat} (h : ckT js (ckL (jex js) r now) (r now) now ≠ 0) : ckG js r now = ckT js (ckL (jex js) r now) (r now) now := by unfold ckG; rw [if_neg h]
theorem ckG_late {js : List J4} {r : Nat → Int} {now i : Nat} (h : ckT js (ckL (jex js) r now) (r now) now = 0) (hi : i < js.length) (hd : jdl js i = now + 1) (hp : 0 < ckL (jex js) r (now + 1) i) : ckG js r now = 6 := by
  unfold ckG
  rw [if_pos h, if_pos (by unfold ckD; exact decide_eq_true ⟨i, hi, hd, hp⟩)]
theorem ckG_fine {js : List J4} {r : Nat → Int} {now : Nat} (h : ckT js (ckL (jex js) r now) (r now) now = 0) (hall : ∀ i, i < js.length → ¬ (jdl js i = now + 1 ∧ 0 < ckL (jex js) r (now + 1) i)) : ckG js r now = 0 := by
  unfold ckG
  rw [if_pos h, if_neg]
  unfold ckD
  simp only [decide_eq_true_eq]
  rintro ⟨i, hi, h2, h3⟩
  exact hall i hi ⟨h2, h3⟩
theorem ck9_first {ts : List T3} {js : List J4} {r : Nat → Int} {at_ : Nat} (hl : legB ts js = true) (ha : at_ < 120) (h : ∀ t, t < at_ → ckG js r t = 0) (h2 : ckG js r at_ ≠ 0) : ck9 ts js 120 r = (ckG js r at_, at_) := by
  unfold ck9
  rw [if_pos hl, if_pos rfl, ckF_at (Nat.zero_le _) (by omega) (fun t _ ht => h t ht) h2]
theorem ck9_none {ts : List T3} {js : List J4} {r : Nat → Int} (hl : legB ts js = true) (h : ∀ t, t < 120 → ckG js r t = 0) : ck9 ts js 120 r = (0, 0) := by
  have h1 := (ck9_ok (ts := ts) (js := js) (len := 120) (r := r)).2 ⟨hl, rfl, h⟩
  exact Prod.ext h1 ((ck9_bd ts js 120 r).2.2 h1)

/-- What the checker answers. -/
def ChkAns (w : World) (p : Nat × Nat) (e : Ending) (w' : World) : Prop := e = .returned (.tuple #[.int .i64 (p.1 : Nat), .int .i64 (p.2 : Nat)]) ∧ Below w.heap.size w w'

set_option maxRecDepth 100000 in
set_option maxHeartbeats 8000000 in
/-- spec.CheckSchedule. -/
theorem specCheckSchedule_any (a ja ra : Option Addr) (cap jcap rcap n : Nat) (ts : List T3) (js : List J4) (r : Nat → Int) (w : World) (hr : Row w a ts) (hj : RowJ w ja js) (hx : IntF w ra n r) (hn : ts.length ≤ 1099511627776) (hjn : js.length ≤ 1099511627776) (hrn : n ≤ 1099511627776) :
    Calls Tryd.prog 17 #[.slice a ts.length cap, .slice ja js.length jcap, .slice ra n rcap] w (ChkAns w (ck9 ts js n r)) := by
  have HR := Lib.hid hr
  have HJ := Lib.hid hj
  have HX := Lib.hid hx
  obtain ⟨i0, xi, xz, xsz, xby⟩ := info_parts intInfo
  have HI := Lib.hid (And.intro xi (And.intro xz (And.intro xsz xby)))
  obtain ⟨P, hP⟩ : ∃ P, P = ck9 ts js n r := ⟨_, rfl⟩
  rw [← hP]
  have HP := Lib.hid hP
  clear hr hj hx hP xi xz xsz xby
  go_enter Tryd.func17, Tryd.ntmps17
  go_wp2_with fail
  refine (specJobsLegal_any _ _ _ _ ts js _ HR.out HJ.out hn hjn).mono ?_
  rintro e w1 ⟨rfl, b1⟩
  have HB1 := Lib.hid b1
  clear b1
  cases hl : legB ts js with
  | false =>
    obtain rfl : P = (1, 0) := by rw [HP.out]; unfold ck9; rw [hl]; rfl
    clear hl
    go_wp2
    go_ret2
    exact ⟨rfl, HB1.out⟩
  | true =>
    have HLG := Lib.hid hl
    obtain ⟨hN, hE, h60⟩ := leg_natJ hl
    have HN := Lib.hid hN
    have HE := Lib.hid hE
    clear hl hN hE
    by_cases h120 : n = 120
    · subst h120
      --LOOPS
      go_wp2
      go_loopg [8, 9] js.length (fun q s z wr => ∃ k : Nat, q + k = js.length ∧ z = .int .i64 k ∧ OwnI wr w1.heap.size s k (fun i => (jex js i : Nat)) ∧ Below w1.heap.size w1 wr)
      case atStart => exact ⟨0, by simp, rfl, OwnI.empty w1 _, below_box _ _⟩
      case round =>
        obtain ⟨k, hq, rfl, ho, hbr⟩ := hrel
        have HQ := Lib.hid hq
        have HO := Lib.hid ho
        have HBR := Lib.hid hbr
        have hkk : k ≤ js.length := by omega
        clear hq ho hbr
        by_cases hlt : k < js.length
        · obtain ⟨bj, oj, ej, _, _, _, _, x3⟩ := (HJ.out.below (HB1.out.trans (HBR.out.mono HB1.out.size))) k hlt
          rw [(HE.out k hlt).1] at x3
          obtain ⟨c, hc⟩ : ∃ c, c = jex js k := ⟨_, rfl⟩
          rw [← hc] at x3
          have HC := Lib.hid hc
          have hk0 : (0 : Int) ≤ k := by omega
          have hk1 : (k : Int) < js.length := by omega
          clear hc
          subst ej
          go_wp2_with (at_builtin; refine wpList_append_own _ rfl (.tmp 27) (.tmp 33) 27 rfl w1.heap.size 3 i0 _ 1 8 Tryd.underlying27 HI.out.1 HI.out.2.1 HI.out.2.2.1 HI.out.2.2.2 rfl (by decide) _ k (vals (fun i => (jex js i : Nat)) k) rfl (World.ownsRow.alloc HO.out _) ⟨wr.heap.size, 0, none⟩ 1 1 [.int .i64 (c : Int)] rfl rfl (news1 _ _ _) (one1 _) (by unfold maxLen; omega) (by omega) (Nat.le_trans HBR.out.size (below_box _ _).size) ?_; intro v' w6 hown' hgrow hnil; have HB6 := Lib.hid (show Below w1.heap.size w1 w6 from (HBR.out.trans ((below_box wr _).mono HBR.out.size)).grown hgrow (Nat.le_trans HBR.out.size (below_box _ _).size) (fun k hk => HO.out.from k hk)); have HO6 := Lib.hid (show OwnI w6 w1.heap.size v' (k + 1) (fun i => (jex js i : Nat)) by unfold OwnI; rw [vals_succ]; rw [← HC.out]; exact hown'); clear hown' hgrow hnil)
          go_roundg (gk - 1)
          case measure => have := HQ.out; omega
          case rel => exact ⟨k + 1, by have := HQ.out; omega, by go_num, HO6.out, HB6.out⟩
        · obtain rfl : k = js.length := by omega
          obtain ⟨la, lc, rfl⟩ := own_shape HO.out
          have HBR2 := Lib.hid (show Below w.heap.size w wr from HB1.out.trans (HBR.out.mono HB1.out.size))
          have hs1 := HB1.out.size
          clear hkk hlt
          go_wp2
          go_loopg [10] 120 (fun q z wu => ∃ t : Nat, q + t = 120 ∧ z = .int .i64 t ∧ OwnI wu w1.heap.size (.slice la js.length lc) js.length (fun i => (ckL (jex js) r t i : Nat)) ∧ (∀ s, s < t → ckG js r s = 0) ∧ Below w.heap.size w wu)
          case atStart => exact ⟨0, rfl, rfl, HO.out, fun s hs => absurd hs (Nat.not_lt_zero _), HBR2.out⟩
          case round =>
            obtain ⟨gq, rfl⟩ : ∃ q, q = gk := ⟨_, rfl⟩
            obtain ⟨wu, rfl⟩ : ∃ x, x = wr := ⟨_, rfl⟩
            obtain ⟨t, hq2, rfl, hLF0, hall, hbu⟩ := hrel
            have HQ2 := Lib.hid hq2
            have HL0 := Lib.hid hLF0
            have HA := Lib.hid hall
            have HBU := Lib.hid hbu
            have htt : t ≤ 120 := by omega
            clear hq2 hLF0 hall hbu
            by_cases ht : t < 120
            · have ht0 : (0 : Int) ≤ t := by omega
              obtain ⟨rb, ro, er, hrb, x0⟩ := (HX.out.below HBU.out) t ht
              obtain ⟨k, hk⟩ : ∃ k, k = r t := ⟨_, rfl⟩
              rw [← hk] at x0
              have HK := Lib.hid hk
              clear hk
              subst er
              obtain ⟨C, hC⟩ : ∃ C, C = ckT js (ckL (jex js) r t) k t := ⟨_, rfl⟩
              have HC := Lib.hid hC
              go_wp2_with fail
              refine (l9Tick_any _ _ jcap lc js (ckL (jex js) r t) k t wu (HJ.out.below HBU.out) HL0.out.intF' HN.out h60 (by omega)).mono ?_
              rintro e w3 ⟨rfl, b3⟩
              rw [← hC]
              have HB3 := Lib.hid (HBU.out.trans (b3.mono HBU.out.size))
              have HL3 := Lib.hid (HL0.out.below b3)
              have x3 := (b3.cell (p := ⟨rb, ro + t, none⟩) hrb).trans x0
              have hrb3 : rb < w3.heap.size := Nat.lt_of_lt_of_le hrb b3.size
              clear b3 x0 hC
              by_cases hc0 : C = 0
              · subst hc0
                have hCT : ckT js (ckL (jex js) r t) (r t) t = 0 := by rw [← HK.out]; exact HC.out.symm
                by_cases hkn : k < 0
                · obtain rfl : k = -1 := by
                    have := ckT_ge hCT
                    rw [← HK.out] at this
                    omega
                  have hLF : OwnI w3 w1.heap.size (.slice la js.length lc) js.length (fun i => (ckL (jex js) r (t + 1) i : Nat)) := HL3.out.congr (fun i hi => by rw [ckL_succ, ← HK.out, if_neg (by omega)])
                  obtain ⟨WN, hWN⟩ : ∃ WN, WN = w3 := ⟨_, rfl⟩
                  have hBN := HB3.out
                  have HBB := Lib.hid HB3.out
                  rw [← hWN] at hLF hBN HBB x3 ⊢
                  clear hWN HL3 HB3 hkn
                  have HLF := Lib.hid hLF
                  have HCT := Lib.hid hCT
                  have HBN := Lib.hid hBN
                  clear hLF hCT hBN
                  go_wp2
                  go_loopg [12] js.length (fun q z wv => ∃ i : Nat, q + i = js.length ∧ z = .int .i64 i ∧ (∀ j, j < i → ¬ (jdl js j = t + 1 ∧ 0 < ckL (jex js) r (t + 1) j)) ∧ WN = wv)
                  case atStart => exact ⟨0, by simp, rfl, fun j hj => absurd hj (Nat.not_lt_zero _), rfl⟩
                  case round =>
                    obtain ⟨i, hqi, rfl, hlate, rfl⟩ := hrel
                    have HQI := Lib.hid hqi
                    have HLT := Lib.hid hlate
                    have hil : i ≤ js.length := by omega
                    clear hqi hlate
                    by_cases hi : i < js.length
                    · have hi0 : (0 : Int) ≤ i := by omega
                      have hi1 : (i : Int) < js.length := by omega
                      obtain ⟨jb0, jo, ej, -, -, -, d2, -⟩ := (HJ.out.below HBN.out) i hi
                      rw [(HN.out i hi).2] at d2
                      obtain ⟨lb, lo, el, hlb, l0⟩ := HLF.out.intF' i hi
                      (first | (simp only [Option.some.injEq, Addr.mk.injEq, and_true] at el; obtain ⟨rfl, rfl⟩ := el) | subst el)
                      (try rw [Nat.zero_add] at l0)
                      obtain ⟨D, hD⟩ : ∃ D, D = jdl js i := ⟨_, rfl⟩
                      obtain ⟨Q, hQ⟩ : ∃ Q, Q = ckL (jex js) r (t + 1) i := ⟨_, rfl⟩
                      (try simp only at l0)
                      rw [← hD] at d2
                      rw [← hQ] at l0
                      have HD := Lib.hid hD
                      have HQ := Lib.hid hQ
                      have HEJ := Lib.hid ej
                      clear hD hQ
                      subst ej
                      by_cases hd : D = t + 1
                      · have hdb : ((D : Int) == (t : Int) + 1) = true := by simp; omega
                        by_cases hq : 0 < Q
                        · have hfin : P = (6, t) := by
                            rw [HP.out, ck9_first HLG.out (by omega) HA.out (by rw [ckG_late HCT.out hi (by rw [← HD.out]; exact hd) (by rw [← HQ.out]; exact hq)]; omega), ckG_late HCT.out hi (by rw [← HD.out]; exact hd) (by rw [← HQ.out]; exact hq)]
                          subst hfin
                          clear hd
                          go_wp2
                          go_ret2
                          exact ⟨rfl, HBN.out⟩
                        · obtain rfl : Q = 0 := by omega
                          clear hd
                          go_wp2
                          go_roundg (gk - 1)
                          case measure => have := HQI.out; omega
                          case rel => exact ⟨i + 1, by have := HQI.out; omega, by go_num, fun j hj => by rcases Nat.lt_succ_iff_lt_or_eq.1 hj with h | rfl; exact HLT.out j h; rw [← HQ.out]; omega, rfl⟩
                      · have hdb : ((D : Int) == (t : Int) + 1) = false := by simp; omega
                        clear hd
                        go_wp2
                        go_roundg (gk - 1)
                        case measure => have := HQI.out; omega
                        case rel => exact ⟨i + 1, by have := HQI.out; omega, by go_num, fun j hj => by rcases Nat.lt_succ_iff_lt_or_eq.1 hj with h | rfl; exact HLT.out j h; rw [← HD.out]; intro h; simp only [beq_eq_false_iff_ne] at hdb; omega, rfl⟩
                    · obtain rfl : i = js.length := by omega
                      have hg := ckG_fine HCT.out HLT.out
                      have HG := Lib.hid hg
                      clear hg
                      go_wp2
                      go_roundg (gq - 1)
                      case measure => have := HQ2.out; omega
                      case rel => exact ⟨t + 1, by have := HQ2.out; omega, by go_num, HLF.out, fun s hs => by rcases Nat.lt_succ_iff_lt_or_eq.1 hs with h | rfl; exact HA.out s h; exact HG.out, HBB.out⟩
                · obtain ⟨q, rfl⟩ : ∃ q : Nat, k = (q : Int) := ⟨k.toNat, by omega⟩
                  have hT := hCT
                  rw [← HK.out] at hT
                  obtain ⟨hq1, -, hq3⟩ := ckT_runs hT
                  obtain ⟨lg, lc', e3, hl1, hl2, -, hlz⟩ := HL3.out.at (show 0 < js.length by omega)
                  simp only [Value.slice.injEq] at e3
                  obtain ⟨rfl, -, rfl⟩ := e3
                  obtain ⟨l0, lf⟩ := HL3.out.cellAt hq1
                  obtain ⟨V, hV⟩ : ∃ V, V = ckL (jex js) r t q := ⟨_, rfl⟩
                  (try simp only at l0)
                  rw [← hV] at l0 hq3
                  have hw : IntKind.i64.wrap ((V : Int) - 1) = (V : Int) - 1 := IntWalk.i64_in _ (by have := ckL_le (jex js) r q t; have := (HE.out q hq1).2.1; omega)
                  have hLF : OwnI (w3.setCell ⟨lg, q, none⟩ (.int .i64 ((V : Int) - 1))).drew w1.heap.size (.slice (some ⟨lg, 0, none⟩) js.length lc) js.length (fun i => (ckL (jex js) r (t + 1) i : Nat)) := ((HL3.out.set hq1 ((V : Int) - 1)).drew).congr (fun i hi => by
                    rw [ckL_succ, ← HK.out]
                    by_cases e : i = q
                    · subst e; rw [if_pos rfl, if_pos rfl, ← hV]; omega
                    · rw [if_neg e, if_neg (by omega)])
                  have hBN : Below w.heap.size w (w3.setCell ⟨lg, q, none⟩ (.int .i64 ((V : Int) - 1))).drew := (HB3.out.setCell (by dsimp only; omega) _).drew
                  have HBB := Lib.hid hBN
                  have hq0 : (0 : Int) ≤ q := by omega
                  have hq11 : (q : Int) < js.length := by omega
                  have HXX := Lib.hid hLF
                  have HYY := Lib.hid hBN
                  have HZZ := Lib.hid hCT
                  clear hLF hBN hCT hT hV hlz hkn
                  go_wp2
                  go_region
                  have hLF := HXX.out
                  have hBN := HYY.out
                  have hCT := HZZ.out
                  obtain ⟨WN, hWN⟩ : ∃ WN, WN = (w3.setCell ⟨lg, q, none⟩ (.int .i64 ((V : Int) - 1))).drew := ⟨_, rfl⟩
                  rw [← hWN] at hLF hBN HBB ⊢
                  clear hWN HXX HYY HZZ HL3 HB3 x3 l0 lf
                  have HLF := Lib.hid hLF
                  have HCT := Lib.hid hCT
                  have HBN := Lib.hid hBN
                  clear hLF hCT hBN
                  go_wp2
                  go_loopg [12] js.length (fun q z wv => ∃ i : Nat, q + i = js.length ∧ z = .int .i64 i ∧ (∀ j, j < i → ¬ (jdl js j = t + 1 ∧ 0 < ckL (jex js) r (t + 1) j)) ∧ WN = wv)
                  case atStart => exact ⟨0, by simp, rfl, fun j hj => absurd hj (Nat.not_lt_zero _), rfl⟩
                  case round =>
                    obtain ⟨i, hqi, rfl, hlate, rfl⟩ := hrel
                    have HQI := Lib.hid hqi
                    have HLT := Lib.hid hlate
                    have hil : i ≤ js.length := by omega
                    clear hqi hlate
                    by_cases hi : i < js.length
                    · have hi0 : (0 : Int) ≤ i := by omega
                      have hi1 : (i : Int) < js.length := by omega
                      obtain ⟨jb0, jo, ej, -, -, -, d2, -⟩ := (HJ.out.below HBN.out) i hi
                      rw [(HN.out i hi).2] at d2
                      obtain ⟨lb, lo, el, hlb, l0⟩ := HLF.out.intF' i hi
                      (first | (simp only [Option.some.injEq, Addr.mk.injEq, and_true] at el; obtain ⟨rfl, rfl⟩ := el) | subst el)
                      (try rw [Nat.zero_add] at l0)
                      obtain ⟨D, hD⟩ : ∃ D, D = jdl js i := ⟨_, rfl⟩
                      obtain ⟨Q, hQ⟩ : ∃ Q, Q = ckL (jex js) r (t + 1) i := ⟨_, rfl⟩
                      (try simp only at l0)
                      rw [← hD] at d2
                      rw [← hQ] at l0
                      have HD := Lib.hid hD
                      have HQ := Lib.hid hQ
                      have HEJ := Lib.hid ej
                      clear hD hQ
                      subst ej
                      by_cases hd : D = t + 1
                      · have hdb : ((D : Int) == (t : Int) + 1) = true := by simp; omega
                        by_cases hq : 0 < Q
                        · have hfin : P = (6, t) := by
                            rw [HP.out, ck9_first HLG.out (by omega) HA.out (by rw [ckG_late HCT.out hi (by rw [← HD.out]; exact hd) (by rw [← HQ.out]; exact hq)]; omega), ckG_late HCT.out hi (by rw [← HD.out]; exact hd) (by rw [← HQ.out]; exact hq)]
                          subst hfin
                          clear hd
                          go_wp2
                          go_ret2
                          exact ⟨rfl, HBN.out⟩
                        · obtain rfl : Q = 0 := by omega
                          clear hd
                          go_wp2
                          go_roundg (gk - 1)
                          case measure => have := HQI.out; omega
                          case rel => exact ⟨i + 1, by have := HQI.out; omega, by go_num, fun j hj => by rcases Nat.lt_succ_iff_lt_or_eq.1 hj with h | rfl; exact HLT.out j h; rw [← HQ.out]; omega, rfl⟩
                      · have hdb : ((D : Int) == (t : Int) + 1) = false := by simp; omega
                        clear hd
                        go_wp2
                        go_roundg (gk - 1)
                        case measure => have := HQI.out; omega
                        case rel => exact ⟨i + 1, by have := HQI.out; omega, by go_num, fun j hj => by rcases Nat.lt_succ_iff_lt_or_eq.1 hj with h | rfl; exact HLT.out j h; rw [← HD.out]; intro h; simp only [beq_eq_false_iff_ne] at hdb; omega, rfl⟩
                    · obtain rfl : i = js.length := by omega
                      have hg := ckG_fine HCT.out HLT.out
                      have HG := Lib.hid hg
                      clear hg
                      go_wp2
                      go_roundg (gq - 1)
                      case measure => have := HQ2.out; omega
                      case rel => exact ⟨t + 1, by have := HQ2.out; omega, by go_num, HLF.out, fun s hs => by rcases Nat.lt_succ_iff_lt_or_eq.1 hs with h | rfl; exact HA.out s h; exact HG.out, HBB.out⟩
              · have hg := ckG_before (js := js) (r := r) (now := t) (by rw [← HK.out, ← HC.out]; exact hc0)
                have hfin : P = (C, t) := by rw [HP.out, ck9_first HLG.out ht HA.out (by rw [hg, ← HK.out, ← HC.out]; exact hc0), hg, ← HK.out, ← HC.out]
                subst hfin
                have hcb : ((C : Int) == 0) = false := by simp; omega
                clear hg
                go_wp2
                go_ret2
                exact ⟨rfl, HB3.out⟩
            · obtain rfl : t = 120 := by omega
              obtain rfl : P = (0, 0) := by rw [HP.out]; exact ck9_none HLG.out HA.out
              go_wp2
              go_ret2
              exact ⟨rfl, HBU.out⟩
      --END
    · obtain rfl : P = (2, 0) := by rw [HP.out]; unfold ck9; rw [if_pos HLG.out, if_neg h120]
      have hne : ((n : Int) == 120) = false := by simp; omega
      go_wp2
      go_ret2
      exact ⟨rfl, HB1.out⟩

end Go.Proofs.YtdhdodmpfbgliaaDoor
