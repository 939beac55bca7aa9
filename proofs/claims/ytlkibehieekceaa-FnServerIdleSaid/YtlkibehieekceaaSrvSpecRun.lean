/- Contract of spec.RunServers. Conditions: the slices hold what is said, at most 2^40 entries. -/
import Derived.Test.YtlkibehieekceaaSrvImpl
import Derived.Test.YtlkibehieekceaaSrvRun
import Derived.Test.YtlkibehieekceaaLegalSpec
namespace Go.Proofs.Ytlkibehieekceaa
open Go.RowKit Go.Deep

set_option maxRecDepth 100000 in
set_option maxHeartbeats 4000000 in
/-- spec.RunServers. -/
theorem specRunServers_any (a ja sa aa : Option Addr) (cap jcap scap acap : Nat) (ts : List T3) (js : List J4) (ss : List A2) (als : List (List A2)) (w : World) (hr : Row w a ts) (hj : RowJ w ja js) (hs : Row2 w sa ss) (hA : RowSS w aa als)
    (hn : ts.length ≤ 1099511627776) (hjn : js.length ≤ 1099511627776) (hsn : ss.length ≤ 1099511627776) (han : als.length ≤ 1099511627776) (hbn : ∀ k, k < als.length → (als.getD k []).length ≤ 1099511627776) :
    Calls Try.prog 44 #[.slice a ts.length cap, .slice ja js.length jcap, .slice sa ss.length scap, .slice aa als.length acap] w fun e w' =>
      SrvGot w.heap.size ts js ss als e w' ∧ Below w.heap.size w w' := by
  obtain ⟨u0, hu0⟩ : ∃ u0, u0 = w.alloc (.cells #[.slice none 0 0, .slice none 0 0, .slice none 0 0, .slice none 0 0] 66) := ⟨_, rfl⟩
  have B0 : Below w.heap.size w u0 := by rw [hu0]; exact below_box _ _
  have Z0 : OwnF 66 4 u0 w.heap.size (.slice (some ⟨w.heap.size, 0, none⟩) 1 1) 1 (fun _ => .slice none 0 0) := by
    rw [hu0]
    exact own_box w _ 4 _ _ rfl (fun c hc => by
      match c, hc with
      | 0, _ | 1, _ | 2, _ | 3, _ => rfl)
  have hlt0 : w.heap.size < u0.heap.size := by rw [hu0]; simp
  have HW := Lib.hid hu0
  have HR := Lib.hid (And.intro hr (And.intro hj (And.intro hs hA)))
  have HBN := Lib.hid hbn
  have HOK := Lib.hid (okS_op ts js ss als)
  clear hu0 hr hj hs hA hbn
  go_enter Try.func44, Try.ntmps44
  go_wp2_with fail
  rw [← HW.out]
  refine (specJobsLegal_any _ _ _ _ _ _ _ (HR.out.1.below B0) (HR.out.2.1.below B0) hn hjn).mono ?_
  rintro e u1 ⟨rfl, b1⟩
  have B1 : Below w.heap.size w u1 := B0.trans (b1.mono B0.size)
  have Z1 := Z0.below b1
  have hlt1 : w.heap.size < u1.heap.size := Nat.lt_of_lt_of_le hlt0 b1.size
  cases hleg : legB ts js with
  | false =>
    have HF := Lib.hid (show okS ts js ss als = false by rw [HOK.out, hleg, Bool.false_and])
    obtain ⟨z, v⟩ := zero_at Z1
    have z0 := z 0
    have z1 := z 1
    have z2 := z 2
    have z3 := z 3
    have v0 := v 0 (by omega)
    have v1 := v 1 (by omega)
    have v2 := v 2 (by omega)
    have v3 := v 3 (by omega)
    have HB := Lib.hid B1
    clear z v Z0 Z1 B0 B1 b1 hleg
    go_wp2
    refine bodyPost_ret (v := .agg #[.slice none 0 0, .slice none 0 0, .slice none 0 0, .slice none 0 0]) ?_ rfl ⟨.inr ⟨HF.out, rfl⟩, ?_⟩
    · simp [results, Try.results44, go_sem, v0, v1, v2, v3]
    · repeat (first | exact HB.out | refine Below.setCell ?_ (by show w.heap.size ≤ w.heap.size; omega) _)
  | true =>
    have HLEG := Lib.hid hleg
    have HB1 := Lib.hid B1
    have HZ1 := Lib.hid Z1
    clear hleg b1 B0 B1 Z0 Z1
    go_wp2_with fail
    refine (specServersValid_any _ _ _ _ (HR.out.2.2.1.below HB1.out) hsn).mono ?_
    rintro e u2 ⟨rfl, b2⟩
    have B2 : Below w.heap.size w u2 := HB1.out.trans (b2.mono HB1.out.size)
    have Z2 := HZ1.out.below b2
    have hlt2 : w.heap.size < u2.heap.size := Nat.lt_of_lt_of_le hlt1 b2.size
    cases hss : ssB ss with
    | false =>
      have HF := Lib.hid (show okS ts js ss als = false by rw [HOK.out, hss, Bool.false_and, Bool.and_false])
      obtain ⟨z, v⟩ := zero_at Z2
      have z0 := z 0
      have z1 := z 1
      have z2 := z 2
      have z3 := z 3
      have v0 := v 0 (by omega)
      have v1 := v 1 (by omega)
      have v2 := v 2 (by omega)
      have v3 := v 3 (by omega)
      have HB := Lib.hid B2
      clear z v Z2 B2 b2 hss
      go_wp2
      refine bodyPost_ret (v := .agg #[.slice none 0 0, .slice none 0 0, .slice none 0 0, .slice none 0 0]) ?_ rfl ⟨.inr ⟨HF.out, rfl⟩, ?_⟩
      · simp [results, Try.results44, go_sem, v0, v1, v2, v3]
      · repeat (first | exact HB.out | refine Below.setCell ?_ (by show w.heap.size ≤ w.heap.size; omega) _)
    | true =>
      have HSS := Lib.hid hss
      have HB2 := Lib.hid B2
      have HZ2 := Lib.hid Z2
      clear hss b2 B2 Z2 HB1 HZ1
      by_cases hl : als.length = ss.length
      · have hlb : ((als.length : Int) != (ss.length : Int)) = false := by simp; omega
        have HL := Lib.hid hl
        clear hl
        go_wp2
        go_loopg [9] als.length (fun m z wr => ∃ k : Nat, m + k = als.length ∧ z = .int .i64 k ∧ (∀ j, j < k → alB (als.getD j []) = true) ∧ Below u2.heap.size u2 wr)
        case atStart => exact ⟨0, rfl, rfl, fun j hj => absurd hj (Nat.not_lt_zero _), Below.refl _ _⟩
        case round =>
          obtain ⟨k, hk, rfl, hall, B⟩ := hrel
          have HK := Lib.hid hk
          have HAL := Lib.hid hall
          have HBL := Lib.hid (HB2.out.trans (B.mono HB2.out.size))
          have HZL := Lib.hid (HZ2.out.below B)
          have HBU := Lib.hid B
          have hkk : k ≤ als.length := by omega
          clear hk hall B
          by_cases hlt : k < als.length
          · obtain ⟨ba, oa, ad, dcap, ea, hba, d0, -, hr2⟩ := (HR.out.2.2.2.below HBL.out) k hlt
            subst ea
            obtain ⟨al, hal⟩ : ∃ al, al = als.getD k [] := ⟨_, rfl⟩
            rw [← hal] at d0 hr2
            have hb1 := HBN.out k hlt
            rw [← hal] at hb1
            have HAE := Lib.hid hal
            have HR2 := Lib.hid hr2
            have hk0 : (0 : Int) ≤ k := by omega
            have hk1 : (k : Int) < als.length := by omega
            clear hal hr2
            go_wp2_with fail
            refine (specArrivalsLegal_any _ _ al _ HR2.out hb1).mono ?_
            rintro e w1 ⟨rfl, b1⟩
            have HB3 := Lib.hid (HBL.out.trans (b1.mono HBL.out.size))
            have HZ3 := Lib.hid (HZL.out.below b1)
            have HBV := Lib.hid (HBU.out.trans (b1.mono HBU.out.size))
            clear b1
            cases hv : alB al with
            | false =>
              have HF := Lib.hid (show okS ts js ss als = false by rw [HOK.out, opB_no (ss := ss) hlt (by rw [← HAE.out]; exact hv), Bool.and_false, Bool.and_false])
              obtain ⟨z, v⟩ := zero_at HZ3.out
              have z0 := z 0
              have z1 := z 1
              have z2 := z 2
              have z3 := z 3
              have v0 := v 0 (by omega)
              have v1 := v 1 (by omega)
              have v2 := v 2 (by omega)
              have v3 := v 3 (by omega)
              clear z v hv
              go_wp2
              refine bodyPost_ret (v := .agg #[.slice none 0 0, .slice none 0 0, .slice none 0 0, .slice none 0 0]) ?_ rfl ⟨.inr ⟨HF.out, rfl⟩, ?_⟩
              · simp [results, Try.results44, go_sem, v0, v1, v2, v3]
              · repeat (first | exact HB3.out | refine Below.setCell ?_ (by show w.heap.size ≤ w.heap.size; omega) _)
            | true =>
              have HV := Lib.hid hv
              clear hv
              go_wp2
              go_roundg (gk - 1)
              case measure => have := HK.out; omega
              case rel => exact ⟨k + 1, by have := HK.out; omega, by go_num, fun j hj => by
                by_cases e : j = k
                · subst e; rw [← HAE.out]; exact HV.out
                · exact HAL.out j (by omega), HBV.out⟩
          · obtain rfl : k = als.length := by omega
            have HT := Lib.hid (show okS ts js ss als = true by rw [HOK.out, HLEG.out, HSS.out, opB_yes HL.out HAL.out]; rfl)
            go_wp2_with fail
            refine (l5Run_any ja sa aa jcap scap acap ts js ss als _ (HR.out.2.1.below HBL.out) (HR.out.2.2.1.below HBL.out) (HR.out.2.2.2.below HBL.out) HT.out).mono ?_
            rintro e w1 ⟨⟨vr, vf, vc, vs, iv, rfl, hp⟩, b1⟩
            obtain ⟨ra, rc, rfl⟩ := own_shape (hp.getI (j := 0) rfl)
            obtain ⟨fa, fc, rfl⟩ := own_shape (hp.getI (j := 1) rfl)
            obtain ⟨ca, cc, rfl⟩ := own_shape (hp.getI (j := 2) rfl)
            obtain ⟨va, vcap, rfl⟩ := own_shape (show OwnF 26 1 w1 wr.heap.size vs ss.length iv from hp.ow 3 _ rfl)
            have HB4 := Lib.hid (HBL.out.trans (b1.mono HBL.out.size))
            have HP := Lib.hid hp
            have hwr : w.heap.size < wr.heap.size := Nat.lt_of_lt_of_le hlt2 HBU.out.size
            obtain ⟨z, v⟩ := zero_at (HZL.out.below b1)
            have z0 := z 0
            have z1 := z 1
            have z2 := z 2
            have z3 := z 3
            have v0 := v 0 (by omega)
            have v1 := v 1 (by omega)
            have v2 := v 2 (by omega)
            have v3 := v 3 (by omega)
            clear z v hp b1
            go_wp2
            refine bodyPost_ret (v := .agg #[.slice ra 120 rc, .slice fa js.length fc, .slice ca 120 cc, .slice va ss.length vcap]) ?_ rfl ⟨.inl ⟨HT.out, _, _, _, _, iv, rfl, ?_⟩, ?_⟩
            · simp [results, Try.results44, go_sem, v0, v1, v2, v3]
            · refine Pool.mono (base := wr.heap.size) ?_ (by omega)
              repeat (first | exact HP.out | refine Pool.other ?_ (by show w.heap.size < wr.heap.size; omega) _)
            · repeat (first | exact HB4.out | refine Below.setCell ?_ (by show w.heap.size ≤ w.heap.size; omega) _)
      · have hlb : ((als.length : Int) != (ss.length : Int)) = true := by simp; omega
        have HF := Lib.hid (show okS ts js ss als = false by rw [HOK.out, opB, decide_eq_false hl, Bool.false_and, Bool.and_false, Bool.and_false])
        clear hl
        obtain ⟨z, v⟩ := zero_at HZ2.out
        have z0 := z 0
        have z1 := z 1
        have z2 := z 2
        have z3 := z 3
        have v0 := v 0 (by omega)
        have v1 := v 1 (by omega)
        have v2 := v 2 (by omega)
        have v3 := v 3 (by omega)
        clear z v
        go_wp2
        refine bodyPost_ret (v := .agg #[.slice none 0 0, .slice none 0 0, .slice none 0 0, .slice none 0 0]) ?_ rfl ⟨.inr ⟨HF.out, rfl⟩, ?_⟩
        · simp [results, Try.results44, go_sem, v0, v1, v2, v3]
        · repeat (first | exact HB2.out | refine Below.setCell ?_ (by show w.heap.size ≤ w.heap.size; omega) _)

end Go.Proofs.Ytlkibehieekceaa
