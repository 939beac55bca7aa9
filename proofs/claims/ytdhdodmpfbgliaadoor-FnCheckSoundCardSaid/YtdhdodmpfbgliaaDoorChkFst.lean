/- Contract of impl.firstViolation: the error of the first violation. Conditions: the slices hold what is said. -/
import Derived.Test.YtdhdodmpfbgliaaDoorChkStep
import Derived.Test.YtdhdodmpfbgliaaDoorLegAll
namespace Go.Proofs.YtdhdodmpfbgliaaDoor
open Go.RowKit Go.Deep

theorem legB_due {ts : List T3} {js : List J4} (h : legB ts js = true) : ∀ i, i < js.length → jrel js i < jdl js i := fun i hi => by
  obtain ⟨hv, _, h1⟩ := legB_iff.1 h
  have hall := (sv_all hv).1
  have h2 := h1 i hi
  obtain ⟨a1, a2, a3, a4, a5, a6, a7⟩ := h2.nat hall
  have hb := tv_bd a2
  obtain ⟨_, ⟨b1, _⟩, _, b3, ⟨b4, _⟩, _⟩ := h2
  simp only [jrel, jdl] at *
  omega
theorem stC_ckG (js : List J4) (r : Nat → Int) (t : Nat) : stC js (ckL (jex js) r t) (r t) t = ckG js r t := rfl

/-- The error of the first violation: none; a code; a code in a tick. -/
def fv9 (ts : List T3) (js : List J4) (n : Nat) (r : Nat → Int) : Value :=
  if (ck9 ts js n r).1 = 0 then .nilIface
  else if (ck9 ts js n r).1 ≤ 2 then .iface 69 (.agg #[.int .i64 ((ck9 ts js n r).1 : Nat)])
  else .iface 73 (.agg #[.int .i64 ((ck9 ts js n r).2 : Nat), .iface 69 (.agg #[.int .i64 ((ck9 ts js n r).1 : Nat)])])
theorem ckG_ge {js : List J4} {r : Nat → Int} {t : Nat} (h : ckG js r t ≠ 0) : 3 ≤ ckG js r t := by
  unfold ckG at h ⊢
  split
  · rename_i h1
    rw [if_pos h1] at h
    split
    · omega
    · rename_i h2; rw [if_neg h2] at h; exact absurd rfl h
  · rename_i h1
    unfold ckT at h1 ⊢
    split
    · omega
    · rename_i h2
      rw [if_neg h2] at h1
      split
      · omega
      · rename_i h3
        rw [if_neg h3] at h1
        split
        · rename_i h4
          rw [if_pos h4] at h1
          split
          · rename_i h5; rw [if_pos h5] at h1; exact absurd rfl h1
          · omega
        · rename_i h4
          rw [if_neg h4] at h1
          split
          · rename_i b hb
            rw [hb] at h1
            simp only at h1
            split
            · omega
            · rename_i h5; rw [if_neg h5] at h1; exact absurd rfl h1
          · rename_i hb
            rw [hb] at h1
            exact absurd rfl h1

set_option maxRecDepth 100000 in
set_option maxHeartbeats 8000000 in
/-- impl.firstViolation. -/
theorem firstViolation_any (a ja ra : Option Addr) (cap jcap rcap n : Nat) (ts : List T3) (js : List J4) (r : Nat → Int) (w : World) (hr : Row w a ts) (hj : RowJ w ja js) (hx : IntF w ra n r) (hn : ts.length ≤ 1099511627776) (hjn : js.length ≤ 1099511627776) (hrn : n ≤ 1099511627776) :
    Calls Tryd.prog 37 #[.slice a ts.length cap, .slice ja js.length jcap, .slice ra n rcap] w fun e w' => e = .returned (fv9 ts js n r) ∧ Below w.heap.size w w' := by
  have HR := Lib.hid hr
  have HJ := Lib.hid hj
  have HX := Lib.hid hx
  obtain ⟨V, hV⟩ : ∃ V, V = fv9 ts js n r := ⟨_, rfl⟩
  rw [← hV]
  have HV := Lib.hid hV
  clear hr hj hx hV
  go_enter Tryd.func37, Tryd.ntmps37
  go_wp2_with fail
  refine (jobsLegal_any _ _ _ _ ts js _ HR.out HJ.out hn hjn).mono ?_
  rintro e w1 ⟨rfl, b1⟩
  have HB1 := Lib.hid b1
  clear b1
  cases hl : legB ts js with
  | false =>
    have HE := Lib.hid (show V = .iface 69 (.agg #[.int .i64 1]) by rw [HV.out]; unfold fv9 ck9; rw [hl]; rfl)
    clear hl
    go_wp2
    go_ret
    exact ⟨by rw [HE.out]; rfl, HB1.out⟩
  | true =>
    have HLG := Lib.hid hl
    obtain ⟨hN, hE, h60⟩ := leg_natJ hl
    have HN := Lib.hid hN
    have HE := Lib.hid hE
    have HD := Lib.hid (legB_due hl)
    clear hl hN hE
    by_cases h120 : n = 120
    · subst h120
      go_wp2_with fail
      refine (execTimes_any ja jcap js w1 (HJ.out.below HB1.out) h60).mono ?_
      rintro e w2 ⟨v, rfl, o2, b2⟩
      obtain ⟨la, lc, rfl⟩ := own_shape o2
      have HO2 := Lib.hid (o2.congr (f' := fun i => (ckL (jex js) r 0 i : Nat)) fun i hi => (HE.out i hi).1)
      have HB2 := Lib.hid b2
      have hs2 := b2.size
      clear o2 b2
      have b3 := below_box w2 (.cells #[.slice ja js.length jcap, .slice la js.length lc] 103)
      have HC := Lib.hid (show (w2.alloc (.cells #[.slice ja js.length jcap, .slice la js.length lc] 103)).cell? ⟨w2.heap.size, 0, none⟩ = some (.slice ja js.length jcap) ∧ (w2.alloc (.cells #[.slice ja js.length jcap, .slice la js.length lc] 103)).cell? ⟨w2.heap.size, 1, none⟩ = some (.slice la js.length lc) from ⟨by simp [go_sem], by simp [go_sem]⟩)
      have HO3 := Lib.hid (HO2.out.below b3)
      have HB3 := Lib.hid (HB2.out.trans (b3.mono hs2))
      have HLB := Lib.hid (HO2.out.lt)
      clear b3
      go_wp2
      go_loopg [28] 120 (fun q z wr => ∃ t : Nat, q + t = 120 ∧ z = .int .i64 t ∧ OwnI wr w1.heap.size (.slice la js.length lc) js.length (fun i => (ckL (jex js) r t i : Nat)) ∧ (∀ s, s < t → ckG js r s = 0) ∧ Below w1.heap.size w1 wr ∧ wr.cell? ⟨w2.heap.size, 0, none⟩ = some (.slice ja js.length jcap) ∧ wr.cell? ⟨w2.heap.size, 1, none⟩ = some (.slice la js.length lc))
      case atStart => exact ⟨0, rfl, rfl, HO3.out, fun s hs => absurd hs (Nat.not_lt_zero _), HB3.out, HC.out.1, HC.out.2⟩
      case round =>
        obtain ⟨t, hq, rfl, ho, hall, hb, c0, c1⟩ := hrel
        have HQ := Lib.hid hq
        have HO := Lib.hid ho
        have HA := Lib.hid hall
        have HB := Lib.hid hb
        have HCC := Lib.hid (And.intro c0 c1)
        have htt : t ≤ 120 := by omega
        clear hq ho hall hb
        by_cases hlt : t < 120
        · obtain ⟨b, off, rfl, hbs, z0⟩ := (HX.out.below (HB1.out.trans (HB.out.mono HB1.out.size))) t hlt
          obtain ⟨k, hk⟩ : ∃ k, k = r t := ⟨_, rfl⟩
          rw [← hk] at z0
          have HK := Lib.hid hk
          have ht0 : (0 : Int) ≤ t := by omega
          have ht1 : (t : Int) < 120 := by omega
          clear hk
          go_wp2_with fail
          refine (step9_any w1 wr ja la jcap lc js (ckL (jex js) r t) k t (HJ.out.below HB1.out) HB.out HO.out (fun i hi => Nat.le_trans (ckL_le _ _ _ _) (HE.out i hi).2.1) HN.out h60 (by omega) HD.out).mono ?_
          rintro e w5 ⟨rfl, ho5, hg5⟩
          rw [HK.out, stC_ckG] at ho5 ⊢
          have HG5 := Lib.hid hg5
          have HO5 := Lib.hid ho5
          have HB5 := Lib.hid (HB.out.grown hg5 HB.out.size (fun k hk => (HO.out.lt k hk).1))
          have HC5 := Lib.hid (And.intro (hg5.cell HCC.out.1 (fun e => Nat.lt_irrefl _ (HLB.out _ e.symm).2)) (hg5.cell HCC.out.2 (fun e => Nat.lt_irrefl _ (HLB.out _ e.symm).2)))
          clear hg5 ho5 z0 c0 c1
          by_cases hc : ckG js r t = 0
          · rw [hc]
            have HO6 := Lib.hid (HO5.out hc)
            have HA6 := Lib.hid (show ∀ s, s < t + 1 → ckG js r s = 0 from fun s hs => by
              by_cases e : s = t
              · subst e; exact hc
              · exact HA.out s (by omega))
            rw [show er9 0 = .nilIface from rfl]
            clear hc
            go_wp2
            go_roundg (gk - 1)
            case measure => have := HQ.out; omega
            case rel => exact ⟨t + 1, by have := HQ.out; omega, by go_num, HO6.out.congr fun i _ => rfl, HA6.out, HB5.out, HC5.out.1, HC5.out.2⟩
          · have hfin : V = .iface 73 (.agg #[.int .i64 (t : Nat), .iface 69 (.agg #[.int .i64 (ckG js r t : Nat)])]) := by
              rw [HV.out, fv9, ck9_first HLG.out hlt HA.out hc, if_neg hc, if_neg (by have := ckG_ge hc; simp only; omega)]
            rw [show er9 (ckG js r t) = .iface 69 (.agg #[.int .i64 (ckG js r t : Nat)]) from if_neg hc]
            obtain ⟨C, hC⟩ : ∃ C, C = ckG js r t := ⟨_, rfl⟩
            rw [← hC] at hfin ⊢
            have HF := Lib.hid hfin
            clear hc hC hfin
            go_wp2
            go_ret
            exact ⟨by rw [HF.out]; rfl, HB1.out.trans (HB5.out.mono HB1.out.size)⟩
        · obtain rfl : t = 120 := by omega
          have hfin : V = .nilIface := by rw [HV.out, fv9, ck9_none HLG.out HA.out]; rfl
          have HF := Lib.hid hfin
          clear hfin
          go_wp2
          go_ret
          exact ⟨by rw [HF.out]; rfl, HB1.out.trans (HB.out.mono HB1.out.size)⟩
    · have HF := Lib.hid (show V = .iface 69 (.agg #[.int .i64 2]) by rw [HV.out]; unfold fv9 ck9; rw [if_pos HLG.out, if_neg h120]; rfl)
      have h120' : ((n : Int) != 120) = true := by simp; omega
      go_wp2
      go_ret
      exact ⟨by rw [HF.out]; rfl, HB1.out⟩

end Go.Proofs.YtdhdodmpfbgliaaDoor
