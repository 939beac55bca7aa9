/- Contract of impl.simulated. Conditions: the slices hold what is said; at most 60 jobs in ascending order of release. -/
import Derived.Test.YtdhdodmpfbgliaaDoorSimMem
namespace Go.Proofs.YtdhdodmpfbgliaaDoor
open Go.RowKit Go.Deep

theorem missing120 (w : World) : Calls Tryd.prog 54 #[.int .i64 120] w fun e w' => ∃ v, e = .returned v ∧ OwnI w' w.heap.size v 120 (fun _ => -1) ∧ Below w.heap.size w w' := missing_any 120 w (by omega)
theorem run_next_none {P : Pat} {t : Nat} (h : P.run t = none) (k : Nat) : (if k < t then optI (P.run k) else -1) = if k < t + 1 then optI (P.run k) else -1 := by
  by_cases e : k = t
  · subst e; rw [if_neg (by omega), if_pos (by omega), h]; rfl
  · by_cases e2 : k < t
    · rw [if_pos e2, if_pos (by omega)]
    · rw [if_neg e2, if_neg (by omega)]
theorem run_next_some {P : Pat} {t b : Nat} (h : P.run t = some b) (k : Nat) : (if k = t then (b : Int) else if k < t then optI (P.run k) else -1) = if k < t + 1 then optI (P.run k) else -1 := by
  by_cases e : k = t
  · subst e; rw [if_pos rfl, if_pos (by omega), h]; rfl
  · rw [if_neg e]
    by_cases e2 : k < t
    · rw [if_pos e2, if_pos (by omega)]
    · rw [if_neg e2, if_neg (by omega)]
theorem st_start {w w1 w2 w4 : World} {n : Nat} {cb vr vf vl : Value} {fr ff fl : Nat → Int} (f : Nat → Nat)
    (or : OwnI w1 (w.alloc (.cells #[.slice none 0 0, .slice none 0 0] 29)).heap.size vr 120 fr) (b1 : Below (w.alloc (.cells #[.slice none 0 0, .slice none 0 0] 29)).heap.size (w.alloc (.cells #[.slice none 0 0, .slice none 0 0] 29)) w1)
    (of : OwnI w2 w1.heap.size vf n ff) (b2 : Below w1.heap.size w1 w2)
    (ol : OwnI w4 (w2.alloc (.cells #[vr, vf] 29)).heap.size vl n fl) (b4 : Below (w2.alloc (.cells #[vr, vf] 29)).heap.size (w2.alloc (.cells #[vr, vf] 29)) w4) :
    ST w w1.heap.size w2.heap.size w4.heap.size cb n (w4.alloc (.cells #[.slice none 0 0, befV cb] 95)) vr vf vl (.slice none 0 0) 0 fr ff fl f := by
  have z1 := b1.size
  have z2 := b2.size
  have z4 := b4.size
  simp only [World.size_alloc] at z1 z4 b1 b4 or ol
  have d5 : Below w4.heap.size w4 (w4.alloc (.cells #[.slice none 0 0, befV cb] 95)) := below_box _ _
  have d4 : Below w2.heap.size w2 (w4.alloc (.cells #[.slice none 0 0, befV cb] 95)) := (below_box _ _).trans ((b4.mono (by omega)).trans (d5.mono (by omega)))
  have d3 : Below (w2.heap.size + 1) (w2.alloc (.cells #[vr, vf] 29)) (w4.alloc (.cells #[.slice none 0 0, befV cb] 95)) := b4.trans (d5.mono (by omega))
  have d2 : Below w1.heap.size w1 (w4.alloc (.cells #[.slice none 0 0, befV cb] 95)) := b2.trans (d4.mono (by omega))
  have d1 : Below (w.heap.size + 1) (w.alloc (.cells #[.slice none 0 0, .slice none 0 0] 29)) (w4.alloc (.cells #[.slice none 0 0, befV cb] 95)) := b1.trans (d2.mono (by omega))
  have d0 : Below w.heap.size w (w4.alloc (.cells #[.slice none 0 0, befV cb] 95)) := (below_box _ _).trans (d1.mono (by omega))
  refine ⟨?_, ?_, ?_, ?_, ?_, ?_, (or.below d2).mono (by omega), (of.below d4).mono (by omega), (ol.below d5).mono (by omega), ⟨d0, by omega, by simp [go_sem], by simp [go_sem], by simp [go_sem], OwnI.nil _ _ _, by simp [Value.ownBlock], fun k hk => absurd hk (Nat.not_lt_zero _)⟩,
    fun k hk => ?_, fun k hk => ?_, fun k hk => ?_, fun k hk => by simp [Value.ownBlock] at hk, by omega, by omega, by omega⟩
  · rw [d1.cell (p := ⟨w.heap.size, 0, none⟩) (by simp)]; simp [go_sem]
  · rw [d1.cell (p := ⟨w.heap.size, 1, none⟩) (by simp)]; simp [go_sem]
  · rw [d1.frozen (p := ⟨w.heap.size, 0, none⟩) (by simp)]; simp [go_sem]
  · rw [d1.frozen (p := ⟨w.heap.size, 1, none⟩) (by simp)]; simp [go_sem]
  · rw [d3.cell (p := ⟨w2.heap.size, 0, none⟩) (by simp)]; simp [go_sem]
  · rw [d3.cell (p := ⟨w2.heap.size, 1, none⟩) (by simp)]; simp [go_sem]
  · have := or.lt k hk; omega
  · have := of.lt k hk; omega
  · have := ol.lt k hk; omega

set_option maxRecDepth 100000 in
set_option maxHeartbeats 8000000 in
/-- impl.simulated. -/
theorem simulated_any (ja : Option Addr) (jcap : Nat) (cb : Value) (js : List J4) (P : Pat) (K : Nat → Nat) (w : World) (hC : Cmp w cb ja jcap js K) (hP : Fits js P) (hx : ∀ k, k < js.length → 1 ≤ P.ex k ∧ P.ex k ≤ 1000) (hn : js.length ≤ 60)
    (hs : ∀ i j, i ≤ j → j < js.length → P.rel i ≤ P.rel j) (hK : ∀ x y, x < P.n → y < P.n → (K x < K y ↔ P.key x < P.key y ∨ (P.key x = P.key y ∧ x < y))) :
    Calls Tryd.prog 32 #[.slice ja js.length jcap, befV cb] w fun e w' =>
      Sched w.heap.size w' P js.length e ∧ Below w.heap.size w w' := by
  have HC := Lib.hid hC
  have HF := Lib.hid hP
  have HX := Lib.hid hx
  have HSO := Lib.hid hs
  have HK := Lib.hid hK
  clear hC hP hx hs hK
  obtain ⟨cg, cx, rfl⟩ := HC.out.shape
  unfold befV
  go_enter Tryd.func32, Tryd.ntmps32
  go_wp2_with fail
  refine (missing120 _).mono ?_
  rintro e w1 ⟨vr, rfl, or, b1⟩
  have OR := Lib.hid or
  have B1 := Lib.hid b1
  clear or b1
  go_wp2_with fail
  refine (missing_any js.length w1 (by omega)).mono ?_
  rintro e w2 ⟨vf, rfl, of, b2⟩
  have OF := Lib.hid of
  have B2 := Lib.hid b2
  clear of b2
  obtain ⟨ar, capr, rfl⟩ := own_shape OR.out
  obtain ⟨af, capf, rfl⟩ := own_shape OF.out
  have J3 := Lib.hid (show RowJ (w2.alloc (.cells #[.slice ar 120 capr, .slice af js.length capf] 29)) ja js from HC.out.row.below (((below_box _ _).trans (B1.out.mono (by simp))).trans ((B2.out.trans ((below_box _ _).mono B2.out.size)).mono (by have := B1.out.size; simp at this; omega))))
  go_wp2_with fail
  refine (execTimes_any ja jcap js _ J3.out hn).mono ?_
  rintro e w4 ⟨vl, rfl, ol, b4⟩
  have HST := Lib.hid (st_start (cb := .func (.func cg) #[] cx) (fun _ => 0) OR.out B1.out OF.out B2.out ol b4)
  have cS : w4.cell? ⟨w2.heap.size, 0, none⟩ = some (.slice ar 120 capr) := by rw [b4.cell (p := ⟨w2.heap.size, 0, none⟩) (by simp)]; simp [go_sem]
  obtain ⟨al, capl, rfl⟩ := own_shape ol
  clear ol b4 J3
  have hsl : w2.heap.size < w4.heap.size := HST.out.o3
  have hsl' : ¬ w4.heap.size = w2.heap.size := by omega
  go_wp2
  clear cS
  generalize hR : w4.heap.size = R at HST hsl ⊢
  generalize hs1 : w1.heap.size = s1 at HST
  clear hR hs1
  go_loopg [8, 24] 120 (fun q a i wr => ∃ (t nx m : Nat) (vh : Value) (f : Nat → Nat), q + t = 120 ∧ i = .int .i64 t ∧ a = .int .i64 nx ∧ ST w s1 w2.heap.size R (.func (.func cg) #[] cx) js.length wr (.slice ar 120 capr) (.slice af js.length capf) (.slice al js.length capl) vh m (fun k => if k < t then optI (P.run k) else -1) (P.fin t) (fun i => ((P.left t i : Nat) : Int)) f ∧ Rdy P K t nx m f)
  case atStart => exact ⟨0, 0, 0, .slice none 0 0, fun _ => 0, rfl, rfl, rfl, HST.out.congr (fun k _ => by rw [if_neg (Nat.not_lt_zero _)]) (fun _ _ => rfl) (fun k hk => HF.out.ex k hk), Rdy.start _ _⟩
  case round =>
    obtain ⟨t, nx, m, vh, f, hq, rfl, rfl, hst, hrd⟩ := hrel
    obtain ⟨G, hG⟩ : ∃ G, G = gk := ⟨_, rfl⟩
    have HG := Lib.hid hG
    have HT := Lib.hid hq
    have htt : t ≤ 120 := by omega
    have HS0 := Lib.hid hst
    have HR0 := Lib.hid hrd
    clear hq hst hrd hG
    by_cases hlt : t < 120
    · have hlt' : (t : Int) < 120 := by omega
      go_wp2
      go_loopg [8] (js.length - nx) (fun q a wr => ∃ (nx m : Nat) (vh : Value) (f : Nat → Nat), q + nx = js.length ∧ a = .int .i64 nx ∧ ST w s1 w2.heap.size R (.func (.func cg) #[] cx) js.length wr (.slice ar 120 capr) (.slice af js.length capf) (.slice al js.length capl) vh m (fun k => if k < t then optI (P.run k) else -1) (P.fin t) (fun i => ((P.left t i : Nat) : Int)) f ∧ Rdy P K t nx m f)
      case atStart => exact ⟨nx, m, vh, f, by have := HR0.out.le; have := HF.out.n; omega, rfl, HS0.out, HR0.out⟩
      case round =>
        clear HS0 HR0 HST
        obtain ⟨nx, m, vh, f, hq, rfl, hst, hrd⟩ := hrel
        have HQ := Lib.hid hq
        have hnx : nx ≤ js.length := by omega
        have HS1 := Lib.hid hst
        have HR1 := Lib.hid hrd
        clear hq hst hrd
        by_cases hnl : nx < js.length
        · have hnl' : (nx : Int) < js.length := by omega
          have hn0 : (0 : Int) ≤ nx := by omega
          have RJ := Lib.hid (HC.out.row.below HS1.out.hs.bl)
          obtain ⟨bj, oj, rfl, hbj, _, x1, _, _⟩ := RJ.out nx hnl
          rw [HF.out.rel nx hnl] at x1
          by_cases hre : P.rel nx = t
          · rw [hre] at x1
            have HRE := Lib.hid hre
            clear hre
            go_wp2_with fail
            refine (heapPush_any HC.out HS1.out.hs hnl (by have := HR1.out.mle; omega) HR1.out.ok).mono ?_
            rintro e w7 ⟨⟨ve, rfl⟩, vh7, f7, h7, k7, m7, g7, p7⟩
            have HS7 := Lib.hid (HS1.out.heap g7 h7 p7)
            have HR7 := Lib.hid (HR1.out.push (by rw [HF.out.n]; exact hnl) HRE.out (HX.out nx hnl).1 m7 k7)
            clear h7 k7 m7 g7 p7
            go_wp2
            go_roundg (gk - 1)
            case measure => have := HQ.out; omega
            case rel => exact ⟨nx + 1, m + 1, vh7, f7, by have := HQ.out; omega, by go_num, HS7.out, HR7.out⟩
          · have hre' : ((P.rel nx : Int) == (t : Int)) = false := by simp; omega
            have HFU : Hid (Full P t nx) := fun k hk hk' => by
              rw [HF.out.n] at hk'
              have h1 := HR1.out.next nx (Nat.le_refl _) (by rw [HF.out.n]; exact hnl)
              have h2 := HSO.out nx k hk hk'
              omega
            clear hre
            go_wp2_with fail
            refine (len_any HS1.out.hs).mono ?_
            rintro e w9 ⟨rfl, rfl⟩
            cases m with
            | zero =>
              have HRN := Lib.hid (HR1.out.none HFU.out)
              go_wp2
              go_roundg (G - 1)
              case measure => have := HG.out; have := HT.out; omega
              case rel => exact ⟨t + 1, nx, 0, vh, f, by have := HG.out; have := HT.out; omega, by go_num, rfl, HS1.out.congr (fun k _ => run_next_none HRN.out k) (fun i _ => by rw [Pat.fin_succ, if_neg (by rw [HRN.out]; simp)]) (fun i _ => by rw [Pat.left_succ, if_neg (by rw [HRN.out]; simp)]), HR1.out.idle HFU.out HRN.out⟩
            | succ m =>
              have HRN := Lib.hid (HR1.out.top HFU.out HK.out)
              have hz : (((m + 1 : Nat) : Int) == 0) = false := by simp; omega
              go_wp2_with fail
              refine (first_any HS1.out.hs (Nat.succ_pos m)).mono ?_
              rintro e w9 ⟨rfl, rfl⟩
              obtain ⟨hbn, hbr, hbl⟩ := Pat.run_pos HRN.out
              rw [HF.out.n] at hbn
              obtain ⟨b, hb⟩ : ∃ b, b = f 0 := ⟨_, rfl⟩
              rw [← hb] at hbn hbr hbl HRN ⊢
              have HB := Lib.hid hb
              have hx1 := (HX.out b hbn).2
              have hle := P.left_ex t b
              obtain ⟨l, hl⟩ : ∃ l, l = P.left t b := ⟨_, rfl⟩
              rw [← hl] at hbl hle
              obtain ⟨gr, rcap', hra, hgr, hgr2, _, zr, yr⟩ := HS1.out.or.at (by omega)
              simp only [Value.slice.injEq] at hra
              obtain ⟨rfl, _, rfl⟩ := hra
              obtain ⟨gf, fcap', hfa, hgf, hgf2, _, zf, yf⟩ := HS1.out.of.at (by omega)
              simp only [Value.slice.injEq] at hfa
              obtain ⟨rfl, _, rfl⟩ := hfa
              obtain ⟨gl, lcap', hla, hgl, hgl2, _, zl, yl⟩ := HS1.out.ol.at (by omega)
              simp only [Value.slice.injEq] at hla
              obtain ⟨rfl, _, rfl⟩ := hla
              have pr := HS1.out.lr gr rfl
              have pf := HS1.out.lf gf rfl
              have pl := HS1.out.ll gl rfl
              have n1 : w2.heap.size ≠ gr := by omega
              have n2 : w2.heap.size ≠ gf := by omega
              have n3 : w2.heap.size ≠ gl := by omega
              have n4 : gr ≠ gl := by omega
              have n5 : gr ≠ gf := by omega
              have n6 : gl ≠ gf := by omega
              have yrt := yr t hlt
              have zrt := zr t
              have ylb := yl b hbn
              have zlb := zl b
              have yfb := yf b hbn
              have zfb := zf b
              have c0 := HS1.out.c0
              have c1 := HS1.out.c1
              rw [← hl] at ylb
              have HL := Lib.hid hl
              clear hl hb yl zl yf zf yr zr hbr pr pf pl hz
              obtain ⟨l, rfl⟩ : ∃ l', l = l' + 1 := ⟨l - 1, by omega⟩
              have hb0 : (0 : Int) ≤ b := by omega
              have hb1 : (b : Int) < js.length := by omega
              have ht0 : (0 : Int) ≤ t := by omega
              have ht1 : (t : Int) < 120 := by omega
              by_cases hm : l = 0
              · subst hm
                go_wp2_with fail
                refine (heapPop_any HC.out (((HS1.out.setR hlt (b : Int)).setL hbn 0).setF hbn (t + 1)).hs (by have := HR1.out.mle; have := HR1.out.le; have := HF.out.n; omega) HR1.out.ok).mono ?_
                rintro e w9 ⟨⟨ve, rfl⟩, vh9, f9, h9, k9, m9, g9, p9⟩
                have HS9 := Lib.hid ((((HS1.out.setR hlt (b : Int)).setL hbn 0).setF hbn (t + 1)).heap g9 h9 (.inl p9))
                have HR9 := Lib.hid (HR1.out.pop HFU.out (by rw [HRN.out, HB.out]) (by rw [← HB.out, ← HL.out]) m9 k9)
                clear h9 k9 m9 g9 p9
                go_wp2
                go_roundg (G - 1)
                case measure => have := HG.out; have := HT.out; omega
                case rel => exact ⟨t + 1, nx, m, vh9, f9, by have := HG.out; have := HT.out; omega, by go_num, rfl, HS9.out.congr (fun k _ => run_next_some HRN.out k) (fun i _ => by
                    rw [Pat.fin_succ, Pat.left_succ, HRN.out]
                    by_cases e : i = b
                    · subst e; rw [← HL.out]; simp
                    · simp [e, show ¬ b = i from fun h => e h.symm]) (fun i _ => by
                    rw [Pat.left_succ, HRN.out]
                    by_cases e : i = b
                    · subst e; rw [← HL.out]; simp
                    · simp [e, show ¬ b = i from fun h => e h.symm]), HR9.out⟩
              · have hm' : ((l : Int) == 0) = false := by simp; omega
                go_wp2
                go_roundg (G - 1)
                case measure => have := HG.out; have := HT.out; omega
                case rel => exact ⟨t + 1, nx, m + 1, vh, f, by have := HG.out; have := HT.out; omega, by go_num, rfl, ((HS1.out.setR hlt (b : Int)).setL hbn l).congr (fun k _ => run_next_some HRN.out k) (fun i _ => by
                    rw [Pat.fin_succ, Pat.left_succ, HRN.out]
                    by_cases e : i = b
                    · subst e; rw [← HL.out]; simp [hm]
                    · simp [show ¬ b = i from fun h => e h.symm]) (fun i _ => by
                    rw [Pat.left_succ, HRN.out]
                    by_cases e : i = b
                    · subst e; rw [← HL.out]; simp
                    · simp [e, show ¬ b = i from fun h => e h.symm]), HR1.out.stay HFU.out HRN.out (by rw [← HL.out]; omega)⟩
        · have HFU : Hid (Full P t nx) := fun k hk hk' => by
            rw [HF.out.n] at hk'
            omega
          go_wp2_with fail
          refine (len_any HS1.out.hs).mono ?_
          rintro e w9 ⟨rfl, rfl⟩
          cases m with
          | zero =>
            have HRN := Lib.hid (HR1.out.none HFU.out)
            go_wp2
            go_roundg (G - 1)
            case measure => have := HG.out; have := HT.out; omega
            case rel => exact ⟨t + 1, nx, 0, vh, f, by have := HG.out; have := HT.out; omega, by go_num, rfl, HS1.out.congr (fun k _ => run_next_none HRN.out k) (fun i _ => by rw [Pat.fin_succ, if_neg (by rw [HRN.out]; simp)]) (fun i _ => by rw [Pat.left_succ, if_neg (by rw [HRN.out]; simp)]), HR1.out.idle HFU.out HRN.out⟩
          | succ m =>
            have HRN := Lib.hid (HR1.out.top HFU.out HK.out)
            have hz : (((m + 1 : Nat) : Int) == 0) = false := by simp; omega
            go_wp2_with fail
            refine (first_any HS1.out.hs (Nat.succ_pos m)).mono ?_
            rintro e w9 ⟨rfl, rfl⟩
            obtain ⟨hbn, hbr, hbl⟩ := Pat.run_pos HRN.out
            rw [HF.out.n] at hbn
            obtain ⟨b, hb⟩ : ∃ b, b = f 0 := ⟨_, rfl⟩
            rw [← hb] at hbn hbr hbl HRN ⊢
            have HB := Lib.hid hb
            have hx1 := (HX.out b hbn).2
            have hle := P.left_ex t b
            obtain ⟨l, hl⟩ : ∃ l, l = P.left t b := ⟨_, rfl⟩
            rw [← hl] at hbl hle
            obtain ⟨gr, rcap', hra, hgr, hgr2, _, zr, yr⟩ := HS1.out.or.at (by omega)
            simp only [Value.slice.injEq] at hra
            obtain ⟨rfl, _, rfl⟩ := hra
            obtain ⟨gf, fcap', hfa, hgf, hgf2, _, zf, yf⟩ := HS1.out.of.at (by omega)
            simp only [Value.slice.injEq] at hfa
            obtain ⟨rfl, _, rfl⟩ := hfa
            obtain ⟨gl, lcap', hla, hgl, hgl2, _, zl, yl⟩ := HS1.out.ol.at (by omega)
            simp only [Value.slice.injEq] at hla
            obtain ⟨rfl, _, rfl⟩ := hla
            have pr := HS1.out.lr gr rfl
            have pf := HS1.out.lf gf rfl
            have pl := HS1.out.ll gl rfl
            have n1 : w2.heap.size ≠ gr := by omega
            have n2 : w2.heap.size ≠ gf := by omega
            have n3 : w2.heap.size ≠ gl := by omega
            have n4 : gr ≠ gl := by omega
            have n5 : gr ≠ gf := by omega
            have n6 : gl ≠ gf := by omega
            have yrt := yr t hlt
            have zrt := zr t
            have ylb := yl b hbn
            have zlb := zl b
            have yfb := yf b hbn
            have zfb := zf b
            have c0 := HS1.out.c0
            have c1 := HS1.out.c1
            rw [← hl] at ylb
            have HL := Lib.hid hl
            clear hl hb yl zl yf zf yr zr hbr pr pf pl hz
            obtain ⟨l, rfl⟩ : ∃ l', l = l' + 1 := ⟨l - 1, by omega⟩
            have hb0 : (0 : Int) ≤ b := by omega
            have hb1 : (b : Int) < js.length := by omega
            have ht0 : (0 : Int) ≤ t := by omega
            have ht1 : (t : Int) < 120 := by omega
            by_cases hm : l = 0
            · subst hm
              go_wp2_with fail
              refine (heapPop_any HC.out (((HS1.out.setR hlt (b : Int)).setL hbn 0).setF hbn (t + 1)).hs (by have := HR1.out.mle; have := HR1.out.le; have := HF.out.n; omega) HR1.out.ok).mono ?_
              rintro e w9 ⟨⟨ve, rfl⟩, vh9, f9, h9, k9, m9, g9, p9⟩
              have HS9 := Lib.hid ((((HS1.out.setR hlt (b : Int)).setL hbn 0).setF hbn (t + 1)).heap g9 h9 (.inl p9))
              have HR9 := Lib.hid (HR1.out.pop HFU.out (by rw [HRN.out, HB.out]) (by rw [← HB.out, ← HL.out]) m9 k9)
              clear h9 k9 m9 g9 p9
              go_wp2
              go_roundg (G - 1)
              case measure => have := HG.out; have := HT.out; omega
              case rel => exact ⟨t + 1, nx, m, vh9, f9, by have := HG.out; have := HT.out; omega, by go_num, rfl, HS9.out.congr (fun k _ => run_next_some HRN.out k) (fun i _ => by
                  rw [Pat.fin_succ, Pat.left_succ, HRN.out]
                  by_cases e : i = b
                  · subst e; rw [← HL.out]; simp
                  · simp [e, show ¬ b = i from fun h => e h.symm]) (fun i _ => by
                  rw [Pat.left_succ, HRN.out]
                  by_cases e : i = b
                  · subst e; rw [← HL.out]; simp
                  · simp [e, show ¬ b = i from fun h => e h.symm]), HR9.out⟩
            · have hm' : ((l : Int) == 0) = false := by simp; omega
              go_wp2
              go_roundg (G - 1)
              case measure => have := HG.out; have := HT.out; omega
              case rel => exact ⟨t + 1, nx, m + 1, vh, f, by have := HG.out; have := HT.out; omega, by go_num, rfl, ((HS1.out.setR hlt (b : Int)).setL hbn l).congr (fun k _ => run_next_some HRN.out k) (fun i _ => by
                  rw [Pat.fin_succ, Pat.left_succ, HRN.out]
                  by_cases e : i = b
                  · subst e; rw [← HL.out]; simp [hm]
                  · simp [show ¬ b = i from fun h => e h.symm]) (fun i _ => by
                  rw [Pat.left_succ, HRN.out]
                  by_cases e : i = b
                  · subst e; rw [← HL.out]; simp
                  · simp [e, show ¬ b = i from fun h => e h.symm]), HR1.out.stay HFU.out HRN.out (by rw [← HL.out]; omega)⟩
    · obtain rfl : t = 120 := by omega
      have c0 := HS0.out.c0
      have c1 := HS0.out.c1
      have r0 := HS0.out.r0
      have r1 := HS0.out.r1
      have g0 := HS0.out.g0
      have g1 := HS0.out.g1
      go_wp2
      refine bodyPost_ret (v := .agg #[.slice ar 120 capr, .slice af js.length capf]) ?_ rfl ⟨⟨_, _, rfl, ?_, ?_, ?_⟩, (HS0.out.hs.bl.setCell (Nat.le_refl _) _).setCell (Nat.le_refl _) _⟩
      · simp [results, Tryd.results32, go_sem, r0, r1]
      · exact (((HS0.out.or.congr fun k hk => by rw [if_pos hk]).other fun e => by have := (HS0.out.lr _ e).1; simp at this).other fun e => by have := (HS0.out.lr _ e).1; simp at this)
      · exact ((HS0.out.of.other fun e => by have h1 := (HS0.out.lf _ e).1; have h2 := HS0.out.o1; simp only at h1; omega).other fun e => by have h1 := (HS0.out.lf _ e).1; have h2 := HS0.out.o1; simp only at h1; omega)
      · exact fun k hk hk' => by have := HS0.out.lf k hk; have := HS0.out.lr k hk'; omega

end Go.Proofs.YtdhdodmpfbgliaaDoor
