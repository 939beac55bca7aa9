/- Contracts of impl.onePatternEach and impl.RunServers. Conditions: the slices hold what is said, at most 2^40 entries. -/
import Derived.Test.YtlkibehieekceaaSrvProg
import Derived.Test.YtlkibehieekceaaSvImpl
import Derived.Test.YtlkibehieekceaaLegalImpl
import Derived.Test.YtlkibehieekceaaRunSpec
namespace Go.Proofs.Ytlkibehieekceaa
open Go.RowKit Go.Deep

/-- One legal pattern for each server. -/
def opB (ss : List A2) (als : List (List A2)) : Bool := decide (als.length = ss.length) && (List.range als.length).all fun k => alB (als.getD k [])
theorem opB_no {ss : List A2} {als : List (List A2)} {k : Nat} (hk : k < als.length) (h : alB (als.getD k []) = false) : opB ss als = false := by
  rw [opB, Bool.and_eq_false_iff]
  exact .inr (List.all_eq_false.2 ⟨k, List.mem_range.2 hk, by rw [h]; simp⟩)
theorem opB_yes {ss : List A2} {als : List (List A2)} (hl : als.length = ss.length) (h : ∀ j, j < als.length → alB (als.getD j []) = true) : opB ss als = true := by
  rw [opB, Bool.and_eq_true]
  exact ⟨decide_eq_true hl, List.all_eq_true.2 fun k hk => h k (List.mem_range.1 hk)⟩
theorem okS_op (ts : List T3) (js : List J4) (ss : List A2) (als : List (List A2)) : okS ts js ss als = (legB ts js && (ssB ss && opB ss als)) := by
  unfold okS opB
  simp only [Bool.and_assoc]

set_option maxHeartbeats 2000000 in
/-- impl.onePatternEach. -/
theorem onePattern_any (sa aa : Option Addr) (scap acap : Nat) (ss : List A2) (als : List (List A2)) (w : World) (hA : RowSS w aa als) (han : als.length ≤ 1099511627776) (hb : ∀ k, k < als.length → (als.getD k []).length ≤ 1099511627776) :
    Calls Try.prog 87 #[.slice sa ss.length scap, .slice aa als.length acap] w fun e w' =>
      e = .returned (.bool (opB ss als)) ∧ Below w.heap.size w w' := by
  have HA := Lib.hid hA
  have HB := Lib.hid hb
  clear hA hb
  by_cases hl : als.length = ss.length
  · have HL := Lib.hid hl
    have hlb : ((als.length : Int) != (ss.length : Int)) = false := by simp; omega
    clear hl
    go_enter Try.func87, Try.ntmps87
    go_wp2
    go_loopg [14] als.length (fun m z wr => ∃ k : Nat, m + k = als.length ∧ z = .int .i64 k ∧ (∀ j, j < k → alB (als.getD j []) = true) ∧ Below w.heap.size w wr)
    case atStart => exact ⟨0, rfl, rfl, fun j hj => absurd hj (Nat.not_lt_zero _), Below.refl _ _⟩
    case round =>
      obtain ⟨k, hk, rfl, hall, B⟩ := hrel
      have HK := Lib.hid hk
      have HAL := Lib.hid hall
      have HBL := Lib.hid B
      have hkk : k ≤ als.length := by omega
      clear hk hall B
      by_cases hlt : k < als.length
      · obtain ⟨ba, oa, ad, dcap, rfl, hba, d0, -, hr2⟩ := (HA.out.below HBL.out) k hlt
        obtain ⟨al, hal⟩ : ∃ al, al = als.getD k [] := ⟨_, rfl⟩
        rw [← hal] at d0 hr2
        have hb1 := HB.out k hlt
        rw [← hal] at hb1
        have HAE := Lib.hid hal
        have HR2 := Lib.hid hr2
        clear hal hr2
        go_wp2_with fail
        refine (arrivalsLegal_any _ _ al _ HR2.out hb1).mono ?_
        rintro e w1 ⟨rfl, b1⟩
        have HB2 := Lib.hid (HBL.out.trans (b1.mono HBL.out.size))
        clear b1
        cases hv : alB al with
        | false =>
          have HY := Lib.hid (opB_no (ss := ss) hlt (by rw [← HAE.out]; exact hv))
          clear hv
          go_wp2
          go_ret
          exact ⟨ret_bool HY.out.symm, HB2.out⟩
        | true =>
          have HV := Lib.hid hv
          clear hv
          go_wp2
          go_roundg (gk - 1)
          case measure => have := HK.out; omega
          case rel => exact ⟨k + 1, by have := HK.out; omega, by go_num, fun j hj => by
            by_cases e : j = k
            · subst e; rw [← HAE.out]; exact HV.out
            · exact HAL.out j (by omega), HB2.out⟩
      · obtain rfl : k = als.length := by omega
        have HY := Lib.hid (opB_yes HL.out HAL.out)
        go_wp2
        go_ret
        exact ⟨ret_bool HY.out.symm, HBL.out⟩
  · have hlb : ((als.length : Int) != (ss.length : Int)) = true := by simp; omega
    have HY := Lib.hid (show opB ss als = false by rw [opB, decide_eq_false hl, Bool.false_and])
    clear hl
    go_enter Try.func87, Try.ntmps87
    go_wp2
    go_ret
    exact ⟨ret_bool HY.out.symm, Below.refl _ _⟩

/-- What the simulation with servers returns, whatever it is given. -/
def SrvGot (base : Nat) (ts : List T3) (js : List J4) (ss : List A2) (als : List (List A2)) (e : Ending) (w' : World) : Prop :=
  (okS ts js ss als = true ∧ GotSR base js ss als e w') ∨ (okS ts js ss als = false ∧ e = .returned (.agg #[.slice none 0 0, .slice none 0 0, .slice none 0 0, .slice none 0 0]))
theorem zero_at {w : World} {g base : Nat} {F : Nat → Value} (h : OwnF 66 4 w base (.slice (some ⟨g, 0, none⟩) 1 1) 1 F) : (∀ c, w.frozen? ⟨g, c, none⟩ = false) ∧ ∀ c, c < 4 → w.cell? ⟨g, c, none⟩ = some (F c) := by
  obtain ⟨-, -, -, q4, q5⟩ := h.at
  exact ⟨q4, fun c hc => q5 c (by omega)⟩
theorem av_below {w u : World} {aa : Option Addr} {als : List (List A2)} (h : RowSS w aa als) (hb : Below w.heap.size w u) {k : Nat} (hk : k < als.length) : avOf u aa k = avOf w aa k := by
  obtain ⟨b, off, ad, cap, rfl, h2, h3, _, _⟩ := h k hk
  show (u.cell? ⟨b, off + k, none⟩).getD (.slice none 0 0) = (w.cell? ⟨b, off + k, none⟩).getD (.slice none 0 0)
  rw [hb.cell (p := ⟨b, off + k, none⟩) h2]
theorem jl_ex {C : Cb} (t i : Nat) : C.jl t i ≤ C.P.ex i := Cb.jl_mono i (Nat.zero_le t)
theorem mArrJ (n : Nat) (a : Option Addr) (w : World) : (method (n + 1) 141 (.pointer a) "loop.example/deadlinescheduler/impl.arrive").run Try.prog w = .ok (169, .pointer a) w := by kernel_rfl
theorem mArrS (n : Nat) (a : Option Addr) (w : World) : (method (n + 1) 144 (.pointer a) "loop.example/deadlinescheduler/impl.arrive").run Try.prog w = .ok (173, .pointer a) w := by kernel_rfl
theorem mRunJ (n : Nat) (a : Option Addr) (w : World) : (method (n + 1) 141 (.pointer a) "loop.example/deadlinescheduler/impl.run").run Try.prog w = .ok (172, .pointer a) w := by kernel_rfl
theorem mRunS (n : Nat) (a : Option Addr) (w : World) : (method (n + 1) 144 (.pointer a) "loop.example/deadlinescheduler/impl.run").run Try.prog w = .ok (176, .pointer a) w := by kernel_rfl

set_option maxRecDepth 100000 in
set_option maxHeartbeats 4000000 in
/-- impl.RunServers. -/
theorem runServers_any (a ja sa aa : Option Addr) (cap jcap scap acap : Nat) (ts : List T3) (js : List J4) (ss : List A2) (als : List (List A2)) (w : World) (hr : Row w a ts) (hj : RowJ w ja js) (hs : Row2 w sa ss) (hA : RowSS w aa als)
    (hn : ts.length ≤ 1099511627776) (hjn : js.length ≤ 1099511627776) (hsn : ss.length ≤ 1099511627776) (han : als.length ≤ 1099511627776) (hbn : ∀ k, k < als.length → (als.getD k []).length ≤ 1099511627776) :
    Calls Try.prog 42 #[.slice a ts.length cap, .slice ja js.length jcap, .slice sa ss.length scap, .slice aa als.length acap] w fun e w' =>
      SrvGot w.heap.size ts js ss als e w' ∧ Below w.heap.size w w' := by
  obtain ⟨u0, hu0⟩ : ∃ u0, u0 = w.alloc (.cells #[.slice none 0 0, .slice none 0 0, .slice none 0 0, .slice none 0 0] 66) := ⟨_, rfl⟩
  have B0 : Below w.heap.size w u0 := by rw [hu0]; exact below_box _ _
  have Z0 : OwnF 66 4 u0 w.heap.size (.slice (some ⟨w.heap.size, 0, none⟩) 1 1) 1 (fun _ => .slice none 0 0) := by
    rw [hu0]
    exact own_box w _ 4 _ _ rfl (fun c hc => by
      match c, hc with
      | 0, _ | 1, _ | 2, _ | 3, _ => rfl)
  have HW := Lib.hid hu0
  have HR := Lib.hid (And.intro hr (And.intro hj (And.intro hs hA)))
  have HBN := Lib.hid hbn
  have HOK := Lib.hid (okS_op ts js ss als)
  clear hu0 hr hj hs hA hbn
  go_enter Try.func42, Try.ntmps42
  go_wp2_with fail
  rw [← HW.out]
  refine (jobsLegal_any _ _ _ _ _ _ _ (HR.out.1.below B0) (HR.out.2.1.below B0) hn hjn).mono ?_
  rintro e u1 ⟨rfl, b1⟩
  have B1 : Below w.heap.size w u1 := B0.trans (b1.mono B0.size)
  have Z1 := Z0.below b1
  cases hleg : legB ts js with
  | false =>
    have HF := Lib.hid (show okS ts js ss als = false by rw [HOK.out, hleg, Bool.false_and])
    obtain ⟨z, v⟩ := zero_at Z1
    have z0 := z 0
    have z1 := z 1
    have z2 := z 2
    have z3 := z 3
    have v0 := v 0 (by omega)
    have v1 := v 1 (by omega)
    have v2 := v 2 (by omega)
    have v3 := v 3 (by omega)
    have HB := Lib.hid B1
    clear z v Z0 Z1 B0 B1 b1 hleg
    go_wp2
    refine bodyPost_ret (v := .agg #[.slice none 0 0, .slice none 0 0, .slice none 0 0, .slice none 0 0]) ?_ rfl ⟨.inr ⟨HF.out, rfl⟩, ?_⟩
    · simp [results, Try.results42, go_sem, v0, v1, v2, v3]
    · repeat (first | exact HB.out | refine Below.setCell ?_ (by show w.heap.size ≤ w.heap.size; omega) _)
  | true =>
    have HLEG := Lib.hid hleg
    have HB1 := Lib.hid B1
    have HZ1 := Lib.hid Z1
    clear hleg b1 B0 B1 Z0 Z1
    go_wp2_with fail
    refine (serversValid_any _ _ _ _ (HR.out.2.2.1.below HB1.out) hsn).mono ?_
    rintro e u2 ⟨rfl, b2⟩
    have B2 : Below w.heap.size w u2 := HB1.out.trans (b2.mono HB1.out.size)
    have Z2 := HZ1.out.below b2
    cases hss : ssB ss with
    | false =>
      have HF := Lib.hid (show okS ts js ss als = false by rw [HOK.out, hss, Bool.false_and, Bool.and_false])
      obtain ⟨z, v⟩ := zero_at Z2
      have z0 := z 0
      have z1 := z 1
      have z2 := z 2
      have z3 := z 3
      have v0 := v 0 (by omega)
      have v1 := v 1 (by omega)
      have v2 := v 2 (by omega)
      have v3 := v 3 (by omega)
      have HB := Lib.hid B2
      clear z v Z2 B2 b2 hss
      go_wp2
      refine bodyPost_ret (v := .agg #[.slice none 0 0, .slice none 0 0, .slice none 0 0, .slice none 0 0]) ?_ rfl ⟨.inr ⟨HF.out, rfl⟩, ?_⟩
      · simp [results, Try.results42, go_sem, v0, v1, v2, v3]
      · repeat (first | exact HB.out | refine Below.setCell ?_ (by show w.heap.size ≤ w.heap.size; omega) _)
    | true =>
      have HSS := Lib.hid hss
      have HB2 := Lib.hid B2
      have HZ2 := Lib.hid Z2
      clear hss b2 B2 Z2 HB1 HZ1
      go_wp2_with fail
      refine (onePattern_any _ _ _ _ ss als _ (HR.out.2.2.2.below HB2.out) han HBN.out).mono ?_
      rintro e u3 ⟨rfl, b3⟩
      have B3 : Below w.heap.size w u3 := HB2.out.trans (b3.mono HB2.out.size)
      have Z3 := HZ2.out.below b3
      cases hop : opB ss als with
      | false =>
        have HF := Lib.hid (show okS ts js ss als = false by rw [HOK.out, hop, Bool.and_false, Bool.and_false])
        obtain ⟨z, v⟩ := zero_at Z3
        have z0 := z 0
        have z1 := z 1
        have z2 := z 2
        have z3 := z 3
        have v0 := v 0 (by omega)
        have v1 := v 1 (by omega)
        have v2 := v 2 (by omega)
        have v3 := v 3 (by omega)
        have HB := Lib.hid B3
        clear z v Z3 B3 b3 hop
        go_wp2
        refine bodyPost_ret (v := .agg #[.slice none 0 0, .slice none 0 0, .slice none 0 0, .slice none 0 0]) ?_ rfl ⟨.inr ⟨HF.out, rfl⟩, ?_⟩
        · simp [results, Try.results42, go_sem, v0, v1, v2, v3]
        · repeat (first | exact HB.out | refine Below.setCell ?_ (by show w.heap.size ≤ w.heap.size; omega) _)
      | true =>
        have HT := Lib.hid (show okS ts js ss als = true by rw [HOK.out, HLEG.out, HSS.out, hop]; rfl)
        have HB3 := Lib.hid B3
        have HZ3 := Lib.hid Z3
        clear hop b3 B3 Z3 HB2 HZ2
        obtain ⟨hleg, hss, hlen, halv⟩ := okS_iff.1 HT.out
        have h60 := (legB_iff.1 hleg).2.1
        have hs2 := (ssB_iff.1 hss).1
        have hfit := leg_fits hleg
        have HFIT := Lib.hid hfit
        have HLEN := Lib.hid hlen
        have HALV := Lib.hid halv
        have hal2 : als.length ≤ 2 := by omega
        obtain ⟨C, hC⟩ : ∃ C, C = cbOf js ss als := ⟨_, rfl⟩
        have HC := Lib.hid hC
        have HCO := Lib.hid (show C.Ok by rw [hC]; exact cb_ok js hss hlen halv)
        have HCE := Lib.hid (show C.P = edfP js ∧ C.ns = ss.length ∧ (∀ k, C.q k = aT ss k) ∧ (∀ k, C.p k = aX ss k) ∧ ∀ k, C.al k = als.getD k [] by rw [hC]; exact ⟨rfl, rfl, fun _ => rfl, fun _ => rfl, fun _ => rfl⟩)
        have HLE := Lib.hid (show ∀ k, k < ss.length → ∀ t, t ≤ 120 → SvLe ((C.st t).sv k) ∧ SvLe (C.A t k) from fun k hk => by
          have h1 := ss_pos hss hk
          have h2 := HCE.out
          exact sv_le HCO.out (by rw [h2.2.1]; exact hk) (by rw [h2.2.2.2.2]; exact halv k (by omega)) (by rw [h2.2.2.1]; omega) (by rw [h2.2.2.2.1]; omega))
        have HPOS := Lib.hid (show ∀ k, k < ss.length → 1 ≤ aT ss k ∧ aT ss k ≤ 12 ∧ aX ss k ≤ 12 from fun k hk => by have := ss_pos hss hk; omega)
        have HSV := Lib.hid (show ∀ k, k < ss.length → (ab ss k).1 = (aT ss k : Nat) ∧ (ab ss k).2 = (aX ss k : Nat) from fun k hk => by
          have := (ssB_iff.1 hss).2 k hk
          rw [ab_T, ab_X]
          omega)
        clear hleg hss hlen halv hfit hC
        go_wp2_with fail
        refine (emptyRun_any ja aa jcap acap js als u3 h60 (HR.out.2.2.2.below HB3.out) hal2 (fun k hk => (alB_iff.1 (HALV.out k hk)).1)).mono ?_
        rintro e u4 ⟨gR', gZ', vr, vf, vc, vs, iv, rfl, h4⟩
        obtain ⟨gr, rc, rfl, -⟩ := (h4.fm.getI (a := (1, 0)) (v := vr) (n := 120) ⟨.inl ⟨.inl (by decide), rfl⟩, by decide⟩ rfl).at (by omega)
        obtain ⟨fa, fc, rfl⟩ := own_shape (h4.fm.getI (a := (2, 0)) (v := vf) ⟨.inl ⟨.inl (by decide), rfl⟩, by decide⟩ rfl)
        obtain ⟨gc, cc, rfl, -⟩ := (h4.fm.getI (a := (3, 0)) (v := vc) (n := 120) ⟨.inl ⟨.inl (by decide), rfl⟩, by decide⟩ rfl).at (by omega)
        obtain ⟨sva, vcap, rfl⟩ := own_shape (show OwnF 26 1 u4 u3.heap.size vs als.length iv from h4.fm.ow (4, 0) ⟨.inl ⟨.inl (by decide), rfl⟩, by decide⟩)
        have H4 := Lib.hid h4
        clear h4
        obtain ⟨u5, hu5⟩ : ∃ u5, u5 = u4.alloc (.cells #[.slice (some ⟨gr, 0, none⟩) 120 rc, .slice fa js.length fc, .slice (some ⟨gc, 0, none⟩) 120 cc, .slice sva als.length vcap] 66) := ⟨_, rfl⟩
        have B5 : Below w.heap.size w u5 := by
          rw [hu5]
          exact (HB3.out.trans (H4.out.be.mono HB3.out.size)).trans ((below_box _ _).mono (by have := HB3.out.size; have := H4.out.be.size; omega))
        have HB5 := Lib.hid B5
        have HU5 := Lib.hid hu5
        clear hu5 B5
        go_wp2_with fail
        rw [← HU5.out]
        refine (contenders_any ja sa aa jcap scap acap js ss als u5 (HR.out.2.1.below HB5.out) (HR.out.2.2.1.below HB5.out) (HR.out.2.2.2.below HB5.out) h60 hs2 HLEN.out (fun k hk => ⟨HFIT.out.1.rel k hk, HFIT.out.2.2 k hk, HFIT.out.1.ex k hk⟩) HSV.out).mono ?_
        rintro e u6 ⟨va, gj, gs, rfl, h6⟩
        obtain ⟨ca, ccap, rfl⟩ := own_shape (show OwnF 113 1 u6 u5.heap.size va (js.length + ss.length) (ifcV gj gs js.length) from h6.fm.ow (5, 0) (cD5 _ _))
        rw [HU5.out] at h6
        have L0 := Lib.hid (RS.start (C := C) HB3.out HZ3.out HLEN.out H4.out h6 HC.out)
        obtain ⟨gR, hgR⟩ : ∃ gR, gR = u4.heap.size := ⟨_, rfl⟩
        rw [← hgR] at L0
        obtain ⟨av, hav⟩ : ∃ av, av = avOf (u4.alloc (.cells #[.slice (some ⟨gr, 0, none⟩) 120 rc, .slice fa js.length fc, .slice (some ⟨gc, 0, none⟩) 120 cc, .slice sva als.length vcap] 66)) aa := ⟨_, rfl⟩
        rw [← hav] at L0
        have HAV := Lib.hid (show ∀ k, k < als.length → ∃ ad cap, av k = .slice ad (als.getD k []).length cap ∧ Row2 w ad (als.getD k []) from fun k hk => by
          obtain ⟨b, off, ad, cap, _, _, _, h3, h4⟩ := av_at HR.out.2.2.2 hk
          refine ⟨ad, cap, ?_, h4⟩
          rw [hav, ← HU5.out, av_below HR.out.2.2.2 HB5.out hk]
          exact h3)
        clear h6 hav H4 HB3 HZ3 HW
        have ma1 := mArrJ
        have ma2 := mArrS
        have mr1 := mRunJ
        have mr2 := mRunS
        go_wp2
        rw [← hgR]
        clear hgR HU5 HB5
        go_loopg [38] 120 (fun m z wr => ∃ t : Nat, m + t = 120 ∧ z = .int .i64 t ∧ RS w wr (fD js.length ss.length) (fI js ss als ⟨gR, .slice (some ⟨gr, 0, none⟩) 120 rc, .slice fa js.length fc, .slice (some ⟨gc, 0, none⟩) 120 cc, .slice sva als.length vcap, .slice ca (js.length + ss.length) ccap, iv, gj, gs, av, w.heap.size⟩ ss.length (js.length + ss.length) (sA C t)))
        case atStart => exact ⟨0, rfl, rfl, L0.out⟩
        case round =>
          obtain ⟨t, hm, rfl, hL⟩ := hrel
          have HT2 := Lib.hid hm
          have HL := Lib.hid hL
          have htt : t ≤ 120 := by omega
          obtain ⟨GT, hGT⟩ : ∃ GT, GT = gk := ⟨_, rfl⟩
          have HGT := Lib.hid hGT
          clear hm hL L0 hGT
          by_cases htlt : t < 120
          · have htl : (t : Int) < 120 := by omega
            have L1 := Lib.hid HL.out.m0
            clear HL
            go_wp2
            go_loopg [43] (js.length + ss.length) (fun m z wr => ∃ c : Nat, m + c = js.length + ss.length ∧ z = .int .i64 c ∧ RS w wr (fD js.length ss.length) (fI js ss als ⟨gR, .slice (some ⟨gr, 0, none⟩) 120 rc, .slice fa js.length fc, .slice (some ⟨gc, 0, none⟩) 120 cc, .slice sva als.length vcap, .slice ca (js.length + ss.length) ccap, iv, gj, gs, av, w.heap.size⟩ ss.length (js.length + ss.length) (sM C js.length t c)))
            case atStart => exact ⟨0, by omega, rfl, L1.out⟩
            case round =>
              obtain ⟨c, hm, rfl, hL⟩ := hrel
              have HK := Lib.hid hm
              have HL := Lib.hid hL
              have hcc : c ≤ js.length + ss.length := by omega
              clear hm hL L1
              by_cases hlt : c < js.length + ss.length
              · obtain ⟨ga, ac', eg⟩ := (show OwnF 113 1 wr w.heap.size (.slice ca (js.length + ss.length) ccap) (js.length + ss.length) (ifcV gj gs js.length) from HL.out.fm.ow (5, 0) (fD0 _ _ (by decide))).has (by omega)
                simp only [Value.slice.injEq] at eg
                obtain ⟨rfl, -, rfl⟩ := eg
                have x0 : wr.cell? ⟨ga, c, none⟩ = some (ifcV gj gs js.length c) := (OwnF.at (show OwnF 113 1 wr w.heap.size (.slice (some ⟨ga, 0, none⟩) (js.length + ss.length) ccap) (js.length + ss.length) (ifcV gj gs js.length) from HL.out.fm.ow (5, 0) (fD0 _ _ (by decide)))).2.2.2.2 c (by omega)
                have hc0 : (0 : Int) ≤ c := by omega
                have hc1 : (c : Int) < (js.length : Int) + ss.length := by omega
                by_cases hcj : c < js.length
                · rw [show ifcV gj gs js.length c = .iface 141 (.pointer (some ⟨gj c, 0, none⟩)) from if_pos hcj] at x0
                  go_wp2_with fail
                  refine (arriveJ_any HL.out (a := (7, c)) (fD7 hcj) rfl).mono ?_
                  rintro e w1 ⟨rfl, r1⟩
                  have L2 := Lib.hid (RS.mJ hcj r1 HCE.out.1)
                  clear r1 HL
                  go_wp2
                  go_roundg (gk - 1)
                  case measure => have := HK.out; omega
                  case rel => exact ⟨c + 1, by have := HK.out; omega, by go_num, L2.out⟩
                · obtain ⟨k, rfl⟩ : ∃ k, c = js.length + k := ⟨c - js.length, by omega⟩
                  have hk : k < ss.length := by omega
                  rw [show ifcV gj gs js.length (js.length + k) = .iface 144 (.pointer (some ⟨gs k, 0, none⟩)) by unfold ifcV; rw [if_neg (by omega), Nat.add_sub_cancel_left]] at x0
                  obtain ⟨ad, dcap, hvk, hrk⟩ := HAV.out k (by have := HLEN.out; omega)
                  have HVK := Lib.hid (And.intro hvk hrk)
                  clear hvk hrk
                  go_wp2_with fail
                  have hkal : k < als.length := by have := HLEN.out; omega
                  have hok : SvOk (aT ss k) (als.getD k []) ((C.st t).sv k) := by
                    have := Cb.sv_ok HCO.out (k := k) (by rw [HCE.out.2.1]; exact hk) t
                    rw [HCE.out.2.2.1, HCE.out.2.2.2.2] at this
                    exact this
                  refine (arriveS_any (s := (C.st t).sv k) (q := aT ss k) (p := aX ss k) (k := k) (g := gs k) (done := dnOf (als.getD k []) ((C.st t).sv k)) (aa := ad) (acap := dcap) (al := als.getD k []) HL.out (a := (8, k)) (fD8 hk) ?_ HVK.out.2 (HALV.out k hkal) hok.cl hok.hc (HLE.out k hk t htt).1 (HPOS.out k hk).2.1 (HPOS.out k hk).2.2 htlt).mono ?_
                  · show srvI (gs k) (aT ss k) (aX ss k) k (av k) (dnOf (als.getD k []) (if js.length + k < js.length + k then C.A t k else (C.st t).sv k)) (if js.length + k < js.length + k then C.A t k else (C.st t).sv k) = _
                    rw [if_neg (Nat.lt_irrefl _), HVK.out.1]
                  rintro e w1 ⟨rfl, r1⟩
                  have hA : ((C.st t).sv k).arr (aT ss k) (aX ss k) (als.getD k []) t = C.A t k := by rw [C.A_eq, HCE.out.2.2.1, HCE.out.2.2.2.1, HCE.out.2.2.2.2]
                  have hd := dnOf_arr (p := aX ss k) (now := t) hok (al_ok (HALV.out k hkal)) (HPOS.out k hk).1
                  rw [hA] at r1 hd
                  rw [← hd, ← HVK.out.1] at r1
                  have L2 := Lib.hid (RS.mS hk r1)
                  clear r1 HL hA hd hok
                  go_wp2
                  go_roundg (gk - 1)
                  case measure => have := HK.out; omega
                  case rel => exact ⟨js.length + k + 1, by have := HK.out; omega, by go_num, L2.out⟩
              · obtain rfl : c = js.length + ss.length := by omega
                have L3 := Lib.hid HL.out.mB
                clear HL HK
                have htop := Cb.top_all (C := C) t (fun k hk => by have := (HLE.out k (by rw [← HCE.out.2.1]; exact hk) t htt).2.2.1; omega)
                rw [HCE.out.1, HCE.out.2.1] at htop
                have HTOP := Lib.hid (show Cb.top js.length (sB C t).lf (jdl js) (sB C t).sv (js.length + ss.length) = match C.K t with
                  | some k => some (js.length + k)
                  | none => C.J t from htop)
                clear htop
                go_wp2_with fail
                refine (mostUrgent_any L3.out (fD0 _ _ (by decide)) (fun i hi => fD7 hi) (fun k hk => fD8 hk) h60 hs2).mono ?_
                rintro e w1 ⟨rfl, b1⟩
                have L4 := Lib.hid (L3.out.below b1)
                rw [HTOP.out]
                clear b1 L3 HTOP
                cases hK : C.K t with
                | some kk =>
                  have hkn := (Cb.K_some hK)
                  have hkk : kk < ss.length := by rw [← HCE.out.2.1]; exact hkn.1
                  have HKN := Lib.hid (And.intro hK hkn)
                  simp only [topV]
                  rw [show ifcV gj gs js.length (js.length + kk) = .iface 144 (.pointer (some ⟨gs kk, 0, none⟩)) by unfold ifcV; rw [if_neg (by omega), Nat.add_sub_cancel_left]]
                  clear hK hkn
                  have hkal : kk < als.length := by have := HLEN.out; omega
                  obtain ⟨ad, dcap, hvk, hrk⟩ := HAV.out kk hkal
                  have HVK := Lib.hid (And.intro hvk hrk)
                  clear hvk hrk
                  have HAOK := Lib.hid (show SvOk (aT ss kk) (als.getD kk []) (C.A t kk) by
                    have := Cb.A_ok HCO.out (k := kk) (by rw [HCE.out.2.1]; exact hkk) t
                    rw [HCE.out.2.2.1, HCE.out.2.2.2.2] at this
                    exact this)
                  have HRO := Lib.hid (show RestOk (als.getD kk []) (C.A t kk) by
                    have := Cb.restA HCO.out (k := kk) (by rw [HCE.out.2.1]; exact hkk) t
                    rw [HCE.out.2.2.2.2] at this
                    exact this)
                  obtain ⟨gv, vc', ev⟩ := (show OwnF 26 1 w1 w.heap.size (.slice sva als.length vcap) ss.length iv from L4.out.fm.ow (4, 0) (fD0 _ _ (by decide))).has (by omega)
                  simp only [Value.slice.injEq] at ev
                  obtain ⟨rfl, -, rfl⟩ := ev
                  have hN0 : 0 < (als.getD kk []).length := Nat.lt_of_lt_of_le (Nat.zero_lt_of_lt HKN.out.2.2.1) HAOK.out.cl
                  obtain ⟨gi, ic, ei, -⟩ := (show OwnI w1 w.heap.size (iv kk) (als.getD kk []).length (C.dn t kk) from L4.out.fm.getI (a := (6, kk)) (fD6 hkk) rfl).at hN0
                  have HEI := Lib.hid ei
                  clear ei
                  go_wp2_with fail
                  refine (runS_any (I := fI js ss als ⟨gR, .slice (some ⟨gr, 0, none⟩) 120 rc, .slice fa js.length fc, .slice (some ⟨gc, 0, none⟩) 120 cc, .slice (some ⟨gv, 0, none⟩) als.length vcap, .slice ca (js.length + ss.length) ccap, iv, gj, gs, av, w.heap.size⟩ ss.length (js.length + ss.length) (sB C t)) (a := (8, kk)) (g := gs kk) (q := aT ss kk) (p := aX ss kk) (k := kk) (s := C.A t kk) (gR := gR) (gc := gc) (cc := cc) (gv := gv) (vcap := vcap) (gi := gi) (icap := ic) (N := (als.getD kk []).length) (ns := als.length) (acap := dcap) (now := t) (aa := ad) (al := als.getD kk []) (iv := iv) (ch := (sB C t).ch) (d := C.dn t kk) L4.out (fD8 hkk) (by
                    show srvI (gs kk) (aT ss kk) (aX ss kk) kk (av kk) _ _ = _
                    rw [HVK.out.1]
                    rfl) (by simp) (by simp) (by simp) (by simp) (fD0 _ _ (by decide)) rfl (fD0 _ _ (by decide)) rfl (fD0 _ _ (by decide)) (by
                    show itV _ ss.length iv = itV _ als.length iv
                    rw [HLEN.out]) HEI.out (fD6 hkk) (by
                    show itI (iv kk) _ _ = _
                    rw [HEI.out]
                    rfl) HVK.out.2 (HALV.out kk hkal) rfl hkal htlt HAOK.out HKN.out.2.2.1 (HLE.out kk hkk t htt).2 HRO.out (HPOS.out kk hkk).2.2).mono ?_
                  rintro e w2 ⟨rfl, r2⟩
                  rw [← HVK.out.1] at r2
                  have L5 := Lib.hid (RS.tS (vi := .slice (some ⟨gi, 0, none⟩) (als.getD kk []).length ic) HKN.out.1 HEI.out.symm rfl (HCE.out.2.2.1 kk) (HCE.out.2.2.2.1 kk) (HCE.out.2.2.2.2 kk) (HAOK.out.r1 HKN.out.2.2.1) r2)
                  clear r2 L4
                  go_wp2
                  go_roundg (GT - 1)
                  case measure => have := HGT.out; have := HT2.out; omega
                  case rel => exact ⟨t + 1, by have := HGT.out; have := HT2.out; omega, by go_num, L5.out⟩
                | none =>
                  cases hJ : C.J t with
                  | some j =>
                    obtain ⟨j1, j2, j3, -, -⟩ := Cb.J_some hJ
                    have hj : j < js.length := by rw [HCE.out.1] at j1; exact j1
                    simp only [topV]
                    rw [show ifcV gj gs js.length j = .iface 141 (.pointer (some ⟨gj j, 0, none⟩)) from if_pos hj]
                    have HLB := Lib.hid (show C.lfB t j = C.jl t j from if_pos j2)
                    have HJX := Lib.hid (show C.jl t j ≤ 1000 by
                      have h1 := jl_ex (C := C) t j
                      have h2 := HFIT.out.2.1 j hj
                      rw [HCE.out.1] at h1
                      omega)
                    have HKJ := Lib.hid (And.intro hK (And.intro hJ (And.intro j3 j2)))
                    clear hK hJ j1 j2 j3
                    obtain ⟨gf, fc', ef⟩ := (show OwnF 3 1 w1 w.heap.size (.slice fa js.length fc) js.length _ from L4.out.fm.ow (2, 0) (fD0 _ _ (by decide))).has (by omega)
                    simp only [Value.slice.injEq] at ef
                    obtain ⟨rfl, -, rfl⟩ := ef
                    go_wp2_with fail
                    refine (runJ_any (I := fI js ss als ⟨gR, .slice (some ⟨gr, 0, none⟩) 120 rc, .slice (some ⟨gf, 0, none⟩) js.length fc, .slice (some ⟨gc, 0, none⟩) 120 cc, .slice sva als.length vcap, .slice ca (js.length + ss.length) ccap, iv, gj, gs, av, w.heap.size⟩ ss.length (js.length + ss.length) (sB C t)) (a := (7, j)) (g := gj j) (gR := gR) (gr := gr) (gf := gf) (rc := rc) (fc := fc) (nj := js.length) (i := j) (left := C.lfB t j) (now := t) (rn := (sB C t).rn) (fn := (sB C t).fn) L4.out (fD7 hj) rfl (by simp) (by simp) (by simp) (fD0 _ _ (by decide)) rfl (fD0 _ _ (by decide)) rfl (fD0 _ _ (by decide)) rfl hj htlt (by rw [HLB.out]; exact HKJ.out.2.2.1) (by rw [HLB.out]; have := HJX.out; omega)).mono ?_
                    rintro e w2 ⟨rfl, r2⟩
                    have L5 := Lib.hid (RS.tJ HKJ.out.1 HKJ.out.2.1 HKJ.out.2.2.1 HKJ.out.2.2.2 r2)
                    clear r2 L4
                    go_wp2
                    go_roundg (GT - 1)
                    case measure => have := HGT.out; have := HT2.out; omega
                    case rel => exact ⟨t + 1, by have := HGT.out; have := HT2.out; omega, by go_num, L5.out⟩
                  | none =>
                    have L5 := Lib.hid (RS.tN hK hJ L4.out)
                    simp only [topV]
                    clear hK hJ L4
                    go_wp2
                    go_roundg (GT - 1)
                    case measure => have := HGT.out; have := HT2.out; omega
                    case rel => exact ⟨t + 1, by have := HGT.out; have := HT2.out; omega, by go_num, L5.out⟩
          · obtain rfl : t = 120 := by omega
            have HZ := Lib.hid (show (∀ c, wr.frozen? ⟨w.heap.size, c, none⟩ = false) ∧ ∀ c, c < 4 → wr.cell? ⟨w.heap.size, c, none⟩ = some (.slice none 0 0) from (HL.out.fm.box (a := (9, 0)) (fD0 _ _ (by decide)) rfl).2.2)
            have z0 := HZ.out.1 0
            have z1 := HZ.out.1 1
            have z2 := HZ.out.1 2
            have z3 := HZ.out.1 3
            have v0 := HZ.out.2 0 (by omega)
            have v1 := HZ.out.2 1 (by omega)
            have v2 := HZ.out.2 2 (by omega)
            have v3 := HZ.out.2 3 (by omega)
            have HX := Lib.hid (HL.out.fm.box (a := (0, 0)) (fD0 _ _ (by decide)) rfl)
            have o0 : wr.cell? ⟨gR, 0, none⟩ = some (.slice (some ⟨gr, 0, none⟩) 120 rc) := HX.out.2.2.2 0 (by omega)
            have o1 : wr.cell? ⟨gR, 1, none⟩ = some (.slice fa js.length fc) := HX.out.2.2.2 1 (by omega)
            have o2 : wr.cell? ⟨gR, 2, none⟩ = some (.slice (some ⟨gc, 0, none⟩) 120 cc) := HX.out.2.2.2 2 (by omega)
            have o3 : wr.cell? ⟨gR, 3, none⟩ = some (.slice sva als.length vcap) := HX.out.2.2.2 3 (by omega)
            have h1 := ((((HL.out.setB (a := (9, 0)) (fD0 _ _ (by decide)) rfl (m := 0) (by omega) (.slice (some ⟨gr, 0, none⟩) 120 rc) (fun _ _ => rfl)).setB (a := (9, 0)) (fD0 _ _ (by decide)) (updI_self _ _ _) (m := 1) (by omega) (.slice fa js.length fc) (fun _ _ => rfl)).setB (a := (9, 0)) (fD0 _ _ (by decide)) (updI_self _ _ _) (m := 2) (by omega) (.slice (some ⟨gc, 0, none⟩) 120 cc) (fun _ _ => rfl)).setB (a := (9, 0)) (fD0 _ _ (by decide)) (updI_self _ _ _) (m := 3) (by omega) (.slice sva als.length vcap) (fun _ _ => rfl))
            simp only [updI_updI] at h1
            have HF := Lib.hid h1
            clear h1
            go_wp2
            refine bodyPost_ret (v := .agg #[.slice (some ⟨gr, 0, none⟩) 120 rc, .slice fa js.length fc, .slice (some ⟨gc, 0, none⟩) 120 cc, .slice sva als.length vcap]) ?_ rfl ⟨.inl ⟨HT.out, _, _, _, _, iv, rfl, ?_⟩, HF.out.be⟩
            · simp [results, Try.results42, go_sem, v0, v1, v2, v3]
            · have h2 := HF.out
              rw [HC.out] at h2
              exact RS.got ⟨h2.be, (h2.fm.sub (fun a ha => ha.1)).same (fun a ha => updI_ne _ _ ha.2)⟩

end Go.Proofs.Ytlkibehieekceaa
