/- The contract of impl.Utilization. Conditions: the slice's cells hold tasks; its length is at most 2^40. -/
import Derived.Test.YtipnemngphglkaaUtil
import Derived.Deep.RegionLaw
import Derived.Deep.RegionHeld3
namespace Go.Proofs.Ytipnemngphglkaa
open Go.RowKit

theorem frac_step {ts : List (Int × Int × Int)} {k H N D c q : Nat} {t : Int × Int × Int} (hlt : k < ts.length) (ht : t = ts[k]) (hc : c = cst t) (hq : q = per t) (hH : H = hyp ts) (hp : 1 ≤ q) (h : Frac N D (wrk H (ts.take k)) H) :
    Frac (rn (N * rd c q + rn c q * D) (D * rd c q)) (rd (N * rd c q + rn c q * D) (D * rd c q)) (wrk H (ts.take (k + 1))) H := by
  rw [take_succ hlt ht, wrk_snoc, ← hc, ← hq]
  exact h.step hp (by rw [hq, hH, ht]; exact per_dvd_hyp (List.getElem_mem hlt))

set_option maxHeartbeats 2000000 in
/-- impl.Utilization. -/
theorem utilization_any (a : Option Addr) (cap : Nat) (ts : List (Int × Int × Int)) (w : World) (hr : Row w a ts) (hn : ts.length ≤ 1099511627776) :
    Calls Try.prog 25 #[.slice a ts.length cap] w fun e w' =>
      e = .returned (.agg #[.int .i64 (utN ts : Nat), .int .i64 (utD ts : Nat)]) ∧ Below w.heap.size w w' := by
  have HR := Lib.hid (hr.below (below_box w (.cells #[.int .i64 0, .int .i64 0] 41)))
  clear hr
  by_cases hv : svB ts = true
  · go_enter Try.func25, Try.ntmps25
    go_wp2_with fail
    refine (setValid_any _ _ _ _ HR.out hn).mono ?_
    rintro e w1 ⟨rfl, b1⟩
    have HV := Lib.hid (sv_all hv).1
    have HSV := Lib.hid hv
    have x0 : w1.cell? ⟨w.heap.size, 0, none⟩ = some (.int .i64 0) := by rw [b1.cell (p := ⟨w.heap.size, 0, none⟩) (by simp)]; go_simp
    have x1 : w1.cell? ⟨w.heap.size, 1, none⟩ = some (.int .i64 0) := by rw [b1.cell (p := ⟨w.heap.size, 1, none⟩) (by simp)]; go_simp
    have f0 : w1.frozen? ⟨w.heap.size, 0, none⟩ = false := by rw [b1.frozen (p := ⟨w.heap.size, 0, none⟩) (by simp)]; go_simp
    have f1 : w1.frozen? ⟨w.heap.size, 1, none⟩ = false := by rw [b1.frozen (p := ⟨w.heap.size, 1, none⟩) (by simp)]; go_simp
    have bw1 : Below w.heap.size w w1 := (below_box _ _).trans (b1.mono (by simp))
    have HR1 := Lib.hid (HR.out.below b1)
    have hs1 := b1.size
    simp at hs1
    have hwlt : w.heap.size < w1.heap.size := by omega
    obtain ⟨H, hH⟩ : ∃ H, H = hyp ts := ⟨_, rfl⟩
    have hbd := hyp_bd ts HV.out
    rw [← hH] at hbd
    have HH := Lib.hid hH
    clear hH
    obtain ⟨hb1, hb2⟩ := hbd
    go_wp2
    clear hv
    go_loopg [13] ts.length (fun n i wr => ∃ k N D : Nat, n + k = ts.length ∧ i = .int .i64 k ∧ Frac N D (wrk H (ts.take k)) H ∧ Below w1.heap.size w1 wr ∧ w1.heap.size < wr.heap.size ∧
      wr.cell? ⟨w1.heap.size, 0, none⟩ = some (.int .i64 N) ∧ wr.cell? ⟨w1.heap.size, 1, none⟩ = some (.int .i64 D) ∧ wr.frozen? ⟨w1.heap.size, 0, none⟩ = false ∧ wr.frozen? ⟨w1.heap.size, 1, none⟩ = false)
    case atStart => exact ⟨0, 0, 1, rfl, rfl, Frac.start H, below_box _ _, by simp, by go_simp, by go_simp, by go_simp, by go_simp⟩
    case round =>
      obtain ⟨k, N, D, hk, rfl, hfr, hb, hsz, y0, y1, z0, z1⟩ := hrel
      have HK := Lib.hid hk
      have hk' : k ≤ ts.length := by omega
      clear hk
      have HF := Lib.hid hfr
      have hD1 := hfr.2.1
      have hD2 : D ≤ 27720 := Nat.le_trans (Nat.le_of_dvd hb1 hfr.dvd) hb2
      have hN2 : N ≤ 138600 := Nat.le_trans (hfr.num_le hb1 (wrk_take_le HSV.out H k)) (by omega)
      clear hfr
      by_cases hlt : k < ts.length
      · obtain ⟨b, off, rfl, hbs, hc0, hc1, hc2⟩ := HR1.out k _ (List.getElem?_eq_getElem hlt)
        obtain ⟨t, ht⟩ : ∃ t, t = ts[k] := ⟨_, rfl⟩
        rw [← ht] at hc0 hc1 hc2
        have htv := all_at HV.out hlt ht
        obtain ⟨q, hq⟩ : ∃ q, q = per t := ⟨_, rfl⟩
        obtain ⟨c, hc⟩ : ∃ c, c = cst t := ⟨_, rfl⟩
        obtain ⟨d, hd⟩ : ∃ d, d = t.2.1 := ⟨_, rfl⟩
        have hp := per_dvd htv
        have hcs := cst_le htv
        rw [← hq] at hp hcs
        rw [← hc] at hcs
        obtain ⟨_, hp1, hp2, hp3⟩ := hp
        obtain ⟨hcs1, hcs2, hcs3⟩ := hcs
        rw [← hp3] at hc2
        rw [← hcs3] at hc0
        rw [← hd] at hc1
        have g0 := (hb.cell (p := ⟨b, off + k * 3, none⟩) hbs).trans hc0
        have g1 := (hb.cell (p := ⟨b, off + k * 3 + 1, none⟩) hbs).trans hc1
        have g2 := (hb.cell (p := ⟨b, off + k * 3 + 2, none⟩) hbs).trans hc2
        have HT := Lib.hid ht
        have HQ := Lib.hid hq
        have HC := Lib.hid hc
        clear ht hq hc hd hp3 hcs3 hc0 hc1 hc2 htv x0 x1 f0 f1
        have hrr := rn_rd c q hp1
        have U := Lib.hid (fun W => utilization1_any c q d W (by omega) (by omega) hp1)
        have A := Lib.hid (fun W => plus_any N D (rn c q) (rd c q) W (by omega) (by omega) hD1 (by omega) (by omega) hrr.2.1)
        clear hrr
        have hsz' : w1.heap.size < wr.heap.size + 1 := by omega
        have hne : w1.heap.size ≠ wr.heap.size := by omega
        go_wp2
        go_region_with (first | (go_at_call 78; refine (U.out _).mono ?_; rintro e w2 ⟨rfl, hb2⟩; have hz2 := hb2.size; simp at hz2; have p0 : w2.cell? ⟨w1.heap.size, 0, none⟩ = some (.int .i64 N) := (by rw [hb2.cell (p := ⟨w1.heap.size, 0, none⟩) (by simp; omega)]; go_simp); have p1 : w2.cell? ⟨w1.heap.size, 1, none⟩ = some (.int .i64 D) := (by rw [hb2.cell (p := ⟨w1.heap.size, 1, none⟩) (by simp; omega)]; go_simp); have p2 : w2.frozen? ⟨w1.heap.size, 0, none⟩ = false := (by rw [hb2.frozen (p := ⟨w1.heap.size, 0, none⟩) (by simp; omega)]; go_simp); have p3 : w2.frozen? ⟨w1.heap.size, 1, none⟩ = false := (by rw [hb2.frozen (p := ⟨w1.heap.size, 1, none⟩) (by simp; omega)]; go_simp)) | (go_at_call 77; refine (A.out _).mono ?_; rintro e w3 ⟨rfl, hb3⟩; have hz3 := hb3.size; have hz4 : w1.heap.size < w2.heap.size := (by omega); have q0 : w3.cell? ⟨w1.heap.size, 0, none⟩ = some (.int .i64 N) := (hb3.cell (p := ⟨w1.heap.size, 0, none⟩) hz4).trans p0; have q1 : w3.cell? ⟨w1.heap.size, 1, none⟩ = some (.int .i64 D) := (hb3.cell (p := ⟨w1.heap.size, 1, none⟩) hz4).trans p1; have q2 : w3.frozen? ⟨w1.heap.size, 0, none⟩ = false := (hb3.frozen (p := ⟨w1.heap.size, 0, none⟩) hz4).trans p2; have q3 : w3.frozen? ⟨w1.heap.size, 1, none⟩ = false := (hb3.frozen (p := ⟨w1.heap.size, 1, none⟩) hz4).trans p3))
        all_goals
          go_wp2
          go_roundg (gk - 1)
          case measure => have := HK.out; omega
          case rel =>
            have hbz := hb.size
            exact ⟨k + 1, _, _, by have := HK.out; omega, by go_num, frac_step hlt HT.out HC.out HQ.out HH.out hp1 HF.out,
              ((((hb.alloc hb.size _).drew.trans (hb2.mono (by simp; omega))).trans (hb3.mono (by omega))).setCell (Nat.le_refl _) _).setCell (Nat.le_refl _) _, by simp [World.setCell]; omega, by simp [go_sem, q0], by simp [go_sem, q1], by simp [go_sem, q2], by simp [go_sem, q3]⟩
      · obtain rfl : k = ts.length := by omega
        have xx0 := (hb.cell (p := ⟨w.heap.size, 0, none⟩) hwlt).trans x0
        have xx1 := (hb.cell (p := ⟨w.heap.size, 1, none⟩) hwlt).trans x1
        have ff0 := (hb.frozen (p := ⟨w.heap.size, 0, none⟩) hwlt).trans f0
        have ff1 := (hb.frozen (p := ⟨w.heap.size, 1, none⟩) hwlt).trans f1
        clear x0 x1 f0 f1
        go_wp2
        simp [bodyPost, results, Try.results25, go_sem, xx0, xx1]
        obtain ⟨u1, u2⟩ := HF.out.unique hb1
        rw [HH.out, List.take_length] at u1 u2
        have hbw := bw1.trans (hb.mono (by omega))
        exact ⟨⟨by rw [(ut_yes HSV.out).1, u1], by rw [(ut_yes HSV.out).2, u2]⟩, (hbw.setCell (Nat.le_refl _) _).setCell (Nat.le_refl _) _⟩
  · have hv' : svB ts = false := by simpa using hv
    clear hv
    go_enter Try.func25, Try.ntmps25
    go_wp2_with fail
    refine (setValid_any _ _ _ _ HR.out hn).mono ?_
    rintro e w1 ⟨rfl, b1⟩
    have x0 : w1.cell? ⟨w.heap.size, 0, none⟩ = some (.int .i64 0) := by rw [b1.cell (p := ⟨w.heap.size, 0, none⟩) (by simp)]; go_simp
    have x1 : w1.cell? ⟨w.heap.size, 1, none⟩ = some (.int .i64 0) := by rw [b1.cell (p := ⟨w.heap.size, 1, none⟩) (by simp)]; go_simp
    have f0 : w1.frozen? ⟨w.heap.size, 0, none⟩ = false := by rw [b1.frozen (p := ⟨w.heap.size, 0, none⟩) (by simp)]; go_simp
    have f1 : w1.frozen? ⟨w.heap.size, 1, none⟩ = false := by rw [b1.frozen (p := ⟨w.heap.size, 1, none⟩) (by simp)]; go_simp
    go_wp2
    simp [bodyPost, results, Try.results25, go_sem, x0, x1]
    refine ⟨⟨?_, ?_⟩, (((below_box _ _).trans (b1.mono (by simp))).setCell (Nat.le_refl _) _).setCell (Nat.le_refl _) _⟩
    · rw [(ut_no hv').1]; rfl
    · rw [(ut_no hv').2]; rfl
end Go.Proofs.Ytipnemngphglkaa
