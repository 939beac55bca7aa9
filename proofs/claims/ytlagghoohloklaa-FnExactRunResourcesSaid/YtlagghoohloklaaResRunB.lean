/- Contracts of spec.DrawRunResources and impl.RunResources. Conditions: the slices hold what is said; their lengths are at most 2^40; no section starts behind the greatest int. -/
import Derived.Test.YtlagghoohloklaaDrawSec
import Derived.Test.YtlagghoohloklaaDrawJobs
import Derived.Test.YtlagghoohloklaaResNew
import Derived.Test.YtlagghoohloklaaResTop
import Derived.Test.YtlagghoohloklaaSrpRun
namespace Go.Proofs.Ytlagghoohloklaa
open Go.RowKit Go.Deep

/-- A task set, not nil, sections and jobs were drawn. -/
def GotRes (w : World) (e : Ending) (w' : World) : Prop :=
  ∃ (g cap sg scap jcap : Nat) (ja : Option Addr) (ts ss : List T3) (js : List J4), e = .returned (.tuple #[.slice (some ⟨g, 0, none⟩) ts.length cap, .slice (some ⟨sg, 0, none⟩) ss.length scap, .slice ja js.length jcap]) ∧ ts.length ≤ 12 ∧ ts.length ≤ cap ∧ cap ≤ maxLen ∧ ss.length ≤ 13 ∧ StB ss ∧ js.length ≤ 61 ∧
    Row w' (some ⟨g, 0, none⟩) ts ∧ Own3 w' w.heap.size (.slice (some ⟨sg, 0, none⟩) ss.length scap) ss ∧ OwnJ w' w.heap.size (.slice ja js.length jcap) js ∧ Below w.heap.size w w'

set_option maxRecDepth 100000 in
set_option maxHeartbeats 2000000 in
/-- spec.DrawRunResources. -/
theorem drawRunResources_any (a : Option Addr) (len cap : Nat) (w : World) (hb : Byts w a len cap) :
    Calls Try.prog 12 #[.slice a len cap] w (GotRes w) := by
  obtain ⟨hb, hc, hm⟩ := hb
  have HB := Lib.hid hb
  clear hb
  go_enter Try.func12, Try.ntmps12
  go_wp2_with fail
  refine (l20Open_any _ _ _ _ HB.out hc hm).mono ?_
  rintro e w1 ⟨rfl, hr, hb1, hs1⟩
  have HR := Lib.hid hr
  clear hr
  go_wp2_with fail
  refine (l20Set_full w.heap.size 0 24 _ HR.out (by omega)).mono ?_
  rintro e w2 ⟨a2, cap2, ts, rfl, hlen, hlc, hcm, hrow, hg, hr2, ⟨g, rfl, hgg⟩, -⟩
  have HW := Lib.hid hrow
  have HR2 := Lib.hid hr2
  have B2 : Below w.heap.size w w2 := hb1.trans (gb_to_below hg (Nat.le_refl _) hb1.size)
  have hgne : g ≠ w.heap.size := by have := HR.out.lt; omega
  have hs2 := B2.size
  clear hrow hr2 hg
  go_wp2_with fail
  refine (l20Sections_any w.heap.size 200 g 0 cap2 16 ts _ HR2.out (by omega) HW.out hgne hlen).mono ?_
  rintro e w3 ⟨sg, scap, o, rfl, hT, ho, hst⟩
  have HO := Lib.hid hst
  have HT := Lib.hid hT
  have HW3 := Lib.hid (row_grown HW.out HT.out.gb hgne)
  have B3 : Below w.heap.size w w3 := B2.trans (gb_to_below HT.out.gb (Nat.le_refl _) hs2)
  have hs3 := HT.out.gb.size
  clear hT hst
  by_cases hv : svB ts = true
  · go_wp2_with fail
    refine (specSetValid_any _ _ _ _ HW3.out (by omega)).mono ?_
    rintro e w4 ⟨rfl, b4⟩
    have HW4 := Lib.hid (HW3.out.below b4)
    have HR4 := Lib.hid (HT.out.rd.below b4)
    have HS4 := Lib.hid (HT.out.ow.below b4)
    have B4 : Below w.heap.size w w4 := B3.trans (b4.mono (by omega))
    have hs4 := b4.size
    go_wp2_with fail
    refine (l20Jobs_any w.heap.size _ g 0 cap2 16 ts _ HR4.out (by omega) HW4.out hgne hv).mono ?_
    rintro e w5 ⟨s, oj, rfl, hjt, hol, -⟩
    have HJ := Lib.hid hjt
    clear hjt
    obtain ⟨ja, jcap, rfl⟩ := HJ.out.ow.shape
    go_wp2
    go_ret3
    exact ⟨g, cap2, sg, scap, jcap, ja, ts, o, oj, rfl, hlen, hlc, hcm, ho, HO.out, hol, HJ.out.row HW4.out hgne, (HS4.out.kept HJ.out.gb HR2.out.lt).mono hs2, HJ.out.ow.mono (by omega), B4.trans (gb_to_below HJ.out.gb (Nat.le_refl _) (by omega))⟩
  · have hv' : svB ts = false := by simpa using hv
    go_wp2_with fail
    refine (specSetValid_any _ _ _ _ HW3.out (by omega)).mono ?_
    rintro e w4 ⟨rfl, b4⟩
    have HW4 := Lib.hid (HW3.out.below b4)
    have HS4 := Lib.hid (HT.out.ow.below b4)
    have B4 : Below w.heap.size w w4 := B3.trans (b4.mono (by omega))
    have hs4 := b4.size
    rw [hv']
    clear hv hv'
    go_wp2
    go_ret3
    exact ⟨g, cap2, sg, scap, 0, some ⟨w4.heap.size, 0, none⟩, ts, o, [], rfl, hlen, hlc, hcm, ho, HO.out, by simp, HW4.out.below (below_box _ _), (HS4.out.mono hs2).below (below_box _ _), (OwnJ.empty w4).mono (by omega), B4.alloc (by omega) _⟩

end Go.Proofs.Ytlagghoohloklaa

namespace Go.Proofs.Ytlagghoohloklaa
open Go.RowKit Go.Deep

/-- What a simulation's struct holds. -/
theorem Sim.cells {w wr : World} {X : RX} {ts ss : List T3} {js : List J4} {nx : Nat} {fd fr ff : Nat → Int} {vst : Value} {ns : Nat} {fs : Nat → Nat} {vh : Value} {nh : Nat} {fh : Nat → Nat} {v : Value} {m : Nat} {f : Nat → Nat} (h : Sim w X ts ss js wr nx fd fr ff vst ns fs vh nh fh v m f) :
    wr.cell? ⟨X.B, 9, none⟩ = some (.slice (some ⟨X.gr, 0, none⟩) 120 X.cr) ∧ wr.cell? ⟨X.B, 10, none⟩ = some (.slice X.fa js.length X.fc) := ⟨h.ps.cell (j := 0) rfl 9 (by decide), h.ps.cell (j := 0) rfl 10 (by decide)⟩

set_option maxRecDepth 100000 in
set_option maxHeartbeats 4000000 in
/-- impl.RunResources. -/
theorem runResources_any (a sa ja : Option Addr) (cap scap jcap : Nat) (ts ss : List T3) (js : List J4) (w : World) (hr : Row w a ts) (hs : Row w sa ss) (hj : RowJ w ja js) (hb : StB ss) (hn : ts.length ≤ 1099511627776) (hsn : ss.length ≤ 1099511627776) (hjn : js.length ≤ 1099511627776) :
    Calls Try.prog 13 #[.slice a ts.length cap, .slice sa ss.length scap, .slice ja js.length jcap] w fun e w' =>
      SrpSched w.heap.size ts ss js e w' ∧ Below w.heap.size w w' := by
  have P0 := (PS.start w).addB 30 #[.slice none 0 0, .slice none 0 0] (outS (.slice none 0 0) (.slice none 0 0)) (by decide) (fun k hk => by
    match k, hk with
    | 0, _ => rfl
    | 1, _ => rfl)
  obtain ⟨W0, hW0⟩ : ∃ W0, W0 = w.alloc (.cells #[.slice none 0 0, .slice none 0 0] 30) := ⟨_, rfl⟩
  rw [← hW0] at P0
  have P0 := Lib.hid P0
  have HR := Lib.hid hr
  have HS := Lib.hid hs
  have HJ := Lib.hid hj
  have HB := Lib.hid hb
  have HW0 := Lib.hid hW0
  clear hr hs hj hW0 hb
  by_cases hok : okR ts ss js = true
  · have HSC := Lib.hid (okR_iff.1 hok).1
    have HLEG := Lib.hid (okR_iff.1 hok).2
    have h60 := (legB_iff.1 (okR_iff.1 hok).2).2.1
    have HOK := Lib.hid hok
    clear hok
    go_enter Try.func13, Try.ntmps13
    go_wp2_with fail
    rw [← HW0.out]
    refine (sectionsValid_any _ _ _ _ _ _ _ (HR.out.below P0.out.be) (HS.out.below P0.out.be) HB.out hn hsn).mono ?_
    rintro e w1 ⟨rfl, b1⟩
    rw [HSC.out]
    have P1 := Lib.hid (P0.out.below b1)
    clear b1
    go_wp2_with fail
    refine (jobsLegal_any _ _ _ _ _ _ _ (HR.out.below P1.out.be) (HJ.out.below P1.out.be) hn hjn).mono ?_
    rintro e w2 ⟨rfl, b2⟩
    rw [HLEG.out]
    have P2 := Lib.hid (P1.out.below b2)
    clear b2
    go_wp2_with fail
    refine (newRun_any _ _ _ _ _ _ ts ss js _ (HR.out.below P2.out.be) (HS.out.below P2.out.be) HOK.out HB.out hn hsn).mono ?_
    rintro e w3 ⟨X, xa, xsa, xja, rfl, hsim⟩
    have HX := Lib.hid (And.intro xa (And.intro xsa xja))
    have S3 := Lib.hid hsim
    have HA := Lib.hid (show Arg w2 X ts ss js from ⟨by rw [xa]; exact HR.out.below P2.out.be, by rw [xsa]; exact HS.out.below P2.out.be, by rw [xja]; exact HJ.out.below P2.out.be, HOK.out⟩)
    have W3 := Lib.hid (Wt.start (srpP ts ss js) (edfK js) (fun _ => 0))
    have K3 := Lib.hid (show Stk (srpP ts ss js) 0 (stk (fun _ => 0) 0) (stk (fun _ => 0) 0) from Stk.start _)
    clear hsim xa xsa xja HX P0 P1
    obtain ⟨B, hBX⟩ : ∃ B, B = X.B := ⟨_, rfl⟩
    rw [← hBX]
    have HBX := Lib.hid hBX
    clear hBX
    go_wp2_with fail
    go_loopg [24] 120 (fun q z wr => ∃ (t nx : Nat) (vst : Value) (ns : Nat) (fs : Nat → Nat) (vh : Value) (nh : Nat) (fh : Nat → Nat) (v : Value) (m : Nat) (f : Nat → Nat), q + t = 120 ∧ z = .int .i64 t ∧ Sim w2 X ts ss js wr nx (dnF (srpP ts ss js).gen t) (rnF ts ss js t) ((srpP ts ss js).gen.fin t) vst ns fs vh nh fh v m f ∧ Wt (srpP ts ss js) (edfK js) t nx m f ∧ Stk (srpP ts ss js) t (stk fs ns) (stk fh nh) ∧ ns ≤ t ∧ nh ≤ t)
    case atStart => exact ⟨0, 0, _, 0, _, _, 0, _, _, 0, _, rfl, rfl, S3.out, W3.out, K3.out, Nat.le_refl _, Nat.le_refl _⟩
    case round =>
      clear S3 W3 K3
      obtain ⟨t, nx, vst, ns, fs, vh, nh, fh, v, m, f, hq, rfl, hS, hW, hK, hns, hnh⟩ := hrel
      have HQ := Lib.hid hq
      have htt : t ≤ 120 := by omega
      have S1 := Lib.hid hS
      have W1 := Lib.hid hW
      have K1 := Lib.hid hK
      have HN := Lib.hid (And.intro hns hnh)
      clear hq hS hW hK hns hnh
      by_cases hlt : t < 120
      · have hlt' : (t : Int) < 120 := by omega
        go_wp2_with fail
        rw [HBX.out]
        refine (release_any HA.out S1.out W1.out).mono ?_
        rintro e w5 ⟨rfl, nx5, v5, m5, f5, s5, t5, a5⟩
        have S5 := Lib.hid s5
        have T5 := Lib.hid (And.intro t5 a5)
        clear s5 t5 a5 S1 W1
        rw [← HBX.out]
        go_wp2_with fail
        rw [HBX.out]
        refine (start_any HA.out hlt S5.out T5.out.1 T5.out.2 K1.out HN.out.1 HN.out.2).mono ?_
        rintro e w6 ⟨rfl, vst6, ns6, fs6, v6, m6, f6, s6, t6, k6, n6⟩
        have S6 := Lib.hid s6
        have T6 := Lib.hid (And.intro t6 (And.intro k6 n6))
        clear s6 t6 k6 n6 S5 T5 K1
        rw [← HBX.out]
        go_wp2_with fail
        rw [HBX.out]
        refine (runTop_any HA.out hlt S6.out T6.out.2.1 T6.out.2.2 HN.out.2).mono ?_
        rintro e w7 ⟨rfl, vst7, ns7, fs7, vh7, nh7, fh7, s7, k7, n7, n8⟩
        have S7 := Lib.hid s7
        have T7 := Lib.hid (And.intro k7 (And.intro n7 n8))
        clear s7 k7 n7 n8 S6
        rw [← HBX.out]
        go_wp2
        go_roundg (gk - 1)
        case measure => have := HQ.out; omega
        case rel => exact ⟨t + 1, nx5, vst7, ns7, fs7, vh7, nh7, fh7, v6, m6, f6, by have := HQ.out; omega, by go_num, S7.out, T6.out.1, T7.out.1, T7.out.2.1, T7.out.2.2⟩
      · obtain rfl : t = 120 := by omega
        clear HQ
        obtain ⟨x0, x1⟩ := S1.out.cells
        rw [← HBX.out] at x0 x1
        have P4 := Lib.hid (P2.out.below S1.out.ps.be)
        have f0 := P4.out.frz (j := 0) rfl 0
        have f1 := P4.out.frz (j := 0) rfl 1
        have c0 := P4.out.cell (j := 0) rfl 0 (by decide)
        have c1 := P4.out.cell (j := 0) rfl 1 (by decide)
        have l0 := (P4.out.lt (j := 0) rfl).2
        have L7 := (P4.out.st (j := 0) (F' := outS (.slice (some ⟨X.gr, 0, none⟩) 120 X.cr) (.slice none 0 0)) rfl 0 (by decide) (.slice (some ⟨X.gr, 0, none⟩) 120 X.cr) out0).st (j := 0) (F' := outS (.slice (some ⟨X.gr, 0, none⟩) 120 X.cr) (.slice X.fa js.length X.fc)) rfl 1 (by decide) (.slice X.fa js.length X.fc) out1
        have y0 := L7.cell (j := 0) rfl 0 (by decide)
        have y1 := L7.cell (j := 0) rfl 1 (by decide)
        simp only [outS] at y0 y1 c0 c1
        have hs2 := P2.out.sz
        have hw2 : w.heap.size < w2.heap.size := (P2.out.lt (j := 0) rfl).2
        have o1 := S1.out.ps.getN (j := 3) rfl
        have o2 := S1.out.ps.getN (j := 4) rfl
        have ap := S1.out.ps.apN (j := 4) (k := 3) (by decide) rfl rfl
        have e1 : ∀ k, k < 120 → rnF ts ss js 120 k = srpF ts ss js k := fun k hk => by unfold rnF; rw [if_pos hk]
        have O := Lib.hid (And.intro (o1.congr e1) (And.intro o2 ap))
        have L7 := Lib.hid L7
        clear o1 o2 ap e1 S1 W1 K1
        go_wp2
        refine bodyPost_ret (v := .agg #[.slice (some ⟨X.gr, 0, none⟩) 120 X.cr, .slice X.fa js.length X.fc]) ?_ rfl ⟨⟨_, _, rfl, ?_, ?_, O.out.2.2⟩, L7.out.be⟩
        · simp [results, Try.results13, go_sem, y0, y1]
        · rw [lenRR, if_pos HOK.out]
          exact ((O.out.1.other fun e => by have := (O.out.1.lt _ e).1; simp at this; omega).other fun e => by have := (O.out.1.lt _ e).1; simp at this; omega).mono (by omega)
        · rw [lenFR, if_pos HOK.out]
          exact ((O.out.2.1.other fun e => by have := (O.out.2.1.lt _ e).1; simp at this; omega).other fun e => by have := (O.out.2.1.lt _ e).1; simp at this; omega).mono (by omega)
  · have hok' : okR ts ss js = false := by simpa using hok
    have hor : scB ts ss = false ∨ scB ts ss = true ∧ legB ts js = false := by
      simp only [okR, Bool.and_eq_false_iff] at hok'
      cases h : scB ts ss with
      | false => exact .inl rfl
      | true =>
        rw [h] at hok'
        simp at hok'
        exact .inr ⟨rfl, hok'⟩
    have HNO := Lib.hid hok
    have HOR := Lib.hid hor
    clear hok hok' hor
    go_enter Try.func13, Try.ntmps13
    go_wp2_with fail
    rw [← HW0.out]
    refine (sectionsValid_any _ _ _ _ _ _ _ (HR.out.below P0.out.be) (HS.out.below P0.out.be) HB.out hn hsn).mono ?_
    rintro e w1 ⟨rfl, b1⟩
    have P1 := Lib.hid (P0.out.below b1)
    clear b1
    rcases HOR.out with h1 | ⟨h1, h2⟩
    · rw [h1]
      have f0 := P1.out.frz (j := 0) rfl 0
      have f1 := P1.out.frz (j := 0) rfl 1
      have c0 := P1.out.cell (j := 0) rfl 0 (by decide)
      have c1 := P1.out.cell (j := 0) rfl 1 (by decide)
      have L7 := (P1.out.st (j := 0) (F' := outS (.slice none 0 0) (.slice none 0 0)) rfl 0 (by decide) (.slice none 0 0) out0).st (j := 0) (F' := outS (.slice none 0 0) (.slice none 0 0)) rfl 1 (by decide) (.slice none 0 0) out1
      have y0 := L7.cell (j := 0) rfl 0 (by decide)
      have y1 := L7.cell (j := 0) rfl 1 (by decide)
      simp only [outS] at y0 y1 c0 c1
      have L7 := Lib.hid L7
      clear P1 P0 h1
      go_wp2
      refine bodyPost_ret (v := .agg #[.slice none 0 0, .slice none 0 0]) ?_ rfl ⟨⟨_, _, rfl, ?_, ?_, Apart.nil _⟩, L7.out.be⟩
      · simp [results, Try.results13, go_sem, y0, y1]
      · rw [lenRR, if_neg HNO.out]
        exact OwnI.nil _ _ _
      · rw [lenFR, if_neg HNO.out]
        exact OwnI.nil _ _ _
    · rw [h1]
      go_wp2_with fail
      refine (jobsLegal_any _ _ _ _ _ _ _ (HR.out.below P1.out.be) (HJ.out.below P1.out.be) hn hjn).mono ?_
      rintro e w2 ⟨rfl, b2⟩
      rw [h2]
      have P2 := Lib.hid (P1.out.below b2)
      have f0 := P2.out.frz (j := 0) rfl 0
      have f1 := P2.out.frz (j := 0) rfl 1
      have c0 := P2.out.cell (j := 0) rfl 0 (by decide)
      have c1 := P2.out.cell (j := 0) rfl 1 (by decide)
      have L7 := (P2.out.st (j := 0) (F' := outS (.slice none 0 0) (.slice none 0 0)) rfl 0 (by decide) (.slice none 0 0) out0).st (j := 0) (F' := outS (.slice none 0 0) (.slice none 0 0)) rfl 1 (by decide) (.slice none 0 0) out1
      have y0 := L7.cell (j := 0) rfl 0 (by decide)
      have y1 := L7.cell (j := 0) rfl 1 (by decide)
      simp only [outS] at y0 y1 c0 c1
      have L7 := Lib.hid L7
      clear P2 P1 P0 h1 h2 b2
      go_wp2
      refine bodyPost_ret (v := .agg #[.slice none 0 0, .slice none 0 0]) ?_ rfl ⟨⟨_, _, rfl, ?_, ?_, Apart.nil _⟩, L7.out.be⟩
      · simp [results, Try.results13, go_sem, y0, y1]
      · rw [lenRR, if_neg HNO.out]
        exact OwnI.nil _ _ _
      · rw [lenFR, if_neg HNO.out]
        exact OwnI.nil _ _ _

end Go.Proofs.Ytlagghoohloklaa
