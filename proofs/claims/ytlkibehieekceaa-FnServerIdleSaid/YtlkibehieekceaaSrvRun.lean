/- Contracts of spec.l5Run and spec.RunServers: the simulation with constant bandwidth servers. Conditions: the slices hold what is said; for l5Run: the arguments are valid. -/
import Derived.Test.YtlkibehieekceaaSrvState
import Derived.StillTailTactics
namespace Go.Proofs.Ytlkibehieekceaa
open Go.RowKit Go.Deep

set_option maxRecDepth 100000 in
set_option maxHeartbeats 8000000 in
/-- spec.l5Run. -/
theorem l5Run_any (ja sa aa : Option Addr) (jcap scap acap : Nat) (ts : List T3) (js : List J4) (ss : List A2) (als : List (List A2)) (w : World) (hj : RowJ w ja js) (hs : Row2 w sa ss) (ha : RowSS w aa als) (hok : okS ts js ss als = true) :
    Calls Try.prog 93 #[.slice ja js.length jcap, .slice sa ss.length scap, .slice aa als.length acap] w fun e w' => GotSR w.heap.size js ss als e w' ∧ Below w.heap.size w w' := by
  obtain ⟨iI, hi, hz, hsz, hby⟩ := info_parts intInfo
  have HI := Lib.hid (And.intro hi (And.intro hz (And.intro hsz hby)))
  clear hi hz hsz hby
  have HJ := Lib.hid hj
  have HS := Lib.hid hs
  have HA := Lib.hid ha
  have HOK := Lib.hid hok
  obtain ⟨hleg, hssv, hlen, halv⟩ := okS_iff.1 hok
  have h60 := (legB_iff.1 hleg).2.1
  have hs2 := (ssB_iff.1 hssv).1
  have HLEG := Lib.hid hleg
  have HSSV := Lib.hid hssv
  have HLEN := Lib.hid hlen
  have HALV := Lib.hid halv
  have hal2 : als.length ≤ 2 := by omega
  clear hj hs ha hok hleg hssv hlen halv
  go_enter Try.func93, Try.ntmps93
  go_wp2_with fail
  have L0 := Lib.hid ((LS.start w).add (i := itI (.slice (some ⟨w.heap.size + 1 + 1, 0, none⟩) 0 0) 0 (fun i => (jb js i).2.2.2)) (below_box _ (.cells #[] 3)) (by
    have h := OwnF.empty 3 1 ((w.alloc (.cells #[.slice none 0 0, .slice none 0 0, .slice none 0 0, .slice none 0 0] 66)).alloc (.cells #[.slice none 0 0, .slice none 0 0, .slice none 0 0, .slice none 0 0] 66)) (fun k => .int .i64 ((jb js k).2.2.2))
    simpa [itI] using h))
  refine (l3Deadlines_any _ _ js _ (HJ.out.below L0.out.be) h60).mono ?_
  rintro e w1 ⟨vk, rfl, hok, b1⟩
  obtain ⟨ka, kcap, rfl⟩ := own_shape hok
  have L1 := Lib.hid ((((((L0.out.add (i := itI (.slice ka js.length kcap) js.length (fun k => (jb js k).2.2.1)) b1 (ownI_F hok)).addNil 3 1 (fun _ => .int .i64 0)).addNil 3 1 (fun _ => .int .i64 (-1))).addNil 3 1 (fun _ => .int .i64 0)).addNil 26 1 (fun _ => .slice none 0 0)))
  clear L0 hok b1
  go_wp2
  go_loopg [8, 10] js.length (fun m s z wr => ∃ (k : Nat) (vl vf : Value), m + k = js.length ∧ z = .int .i64 k ∧ s = vl ∧ LS w wr [itI vl k (fun i => (jb js i).2.2.2), itI (.slice ka js.length kcap) js.length (fun k => (jb js k).2.2.1), itI (.slice none 0 0) 0 (fun _ => 0), itI vf k (fun _ => -1), itI (.slice none 0 0) 0 (fun _ => 0), itV (.slice none 0 0) 0 (fun _ => .slice none 0 0)] (.slice none 0 0) vf (.slice none 0 0) (.slice none 0 0))
  case atStart => exact ⟨0, _, _, by omega, rfl, rfl, L1.out⟩
  case round =>
    obtain ⟨k, vl, vf, hk, rfl, rfl, hL⟩ := hrel
    have HK := Lib.hid hk
    have HL := Lib.hid hL
    have hkk : k ≤ js.length := by omega
    obtain ⟨la, lcap, rfl⟩ := own_shape (hL.pl.getI (j := 0) rfl)
    obtain ⟨fa, fcap, rfl⟩ := own_shape (hL.pl.getI (j := 3) rfl)
    clear hk hL L1
    by_cases hlt : k < js.length
    · have hk0 : (0 : Int) ≤ k := by omega
      have hk1 : (k : Int) < js.length := by omega
      obtain ⟨bj, oj, ej, -, -, -, -, x3⟩ := (HJ.out.below HL.out.be) k hlt
      subst ej
      obtain ⟨X, hX⟩ : ∃ X, X = (jb js k).2.2.2 := ⟨_, rfl⟩
      rw [← hX] at x3
      have HX := Lib.hid hX
      clear hX
      go_wp2_with (first
        | (at_builtin; refine wpList_append_at _ rfl (.tmp 31) (.tmp 37) 26 rfl (w.heap.size + 2) 3 iI _ 1 8 Try.underlying26 HI.out.1 HI.out.2.1 HI.out.2.2.1 HI.out.2.2.2 rfl (by decide) _ k (vals (fun i => (jb js i).2.2.2) k) rfl ((HL.out.alloc _).pl.getI (j := 0) rfl) ⟨wr.heap.size, 0, none⟩ 1 1 [.int .i64 X] rfl rfl (news1 _ _ _) (one1 _) (by unfold maxLen; omega) (by omega) (HL.out.alloc _).sz (by decide) ?_; intro v1 u1 ho1 hg1 hp1 hn1; have L2 := Lib.hid ((HL.out.alloc _).pushI (j := 0) rfl ho1 hg1 hp1); have y1 := L2.out.c.2.1; have y2 := L2.out.c.2.2.2.2 1; obtain ⟨a1, c1, rfl⟩ := own_shape ho1; clear ho1 hg1 hp1 hn1)
        | (at_builtin; refine wpList_append_at _ rfl (.tmp 41) (.tmp 42) 26 rfl (w.heap.size + 2) 3 iI _ 1 8 Try.underlying26 HI.out.1 HI.out.2.1 HI.out.2.2.1 HI.out.2.2.2 rfl (by decide) _ k (vals (fun _ => -1) k) rfl ((L2.out.alloc _).pl.getI (j := 3) rfl) ⟨u1.heap.size, 0, none⟩ 1 1 [.int .i64 (-1)] rfl rfl (news1 _ _ _) (one1 _) (by unfold maxLen; omega) (by omega) (L2.out.alloc _).sz (by decide) ?_; intro v2 u2 ho2 hg2 hp2 hn2; have L3 := Lib.hid ((L2.out.alloc _).pushI (j := 3) rfl ho2 hg2 hp2); have y3 := L3.out.c.2.2.2.2 1; have y4 := L3.out.c.2.1; obtain ⟨a2, c2, rfl⟩ := own_shape ho2; clear ho2 hg2 hp2 hn2))
      have L3' := Lib.hid (((L3.out.out1 (.slice a2 (k + 1) c2)).congrI (j := 0) (g := fun i => (jb js i).2.2.2) rfl (fun i _ => by
        by_cases e : i = k
        · subst e; rw [if_pos rfl, HX.out]
        · rw [if_neg e])).congrI (j := 3) (g := fun _ => -1) rfl (fun i _ => by split <;> rfl))
      go_roundg (gk - 1)
      case measure => have := HK.out; omega
      case rel => exact ⟨k + 1, _, _, by have := HK.out; omega, by go_num, rfl, L3'.out⟩
    · obtain rfl : k = js.length := by omega
      clear HK
      obtain ⟨w2, hw2⟩ : ∃ w2, w2 = wr := ⟨_, rfl⟩
      subst hw2
      obtain ⟨iS, hi, hz, hsz, hby⟩ := info_parts stInfo
      have HIS := Lib.hid (And.intro hi (And.intro hz (And.intro hsz hby)))
      clear hi hz hsz hby
      obtain ⟨iV, hi, hz, hsz, hby⟩ := info_parts isInfo
      have HIV := Lib.hid (And.intro hi (And.intro hz (And.intro hsz hby)))
      clear hi hz hsz hby
      have L4 := Lib.hid (HL.out.add (i := itS (.slice (some ⟨w2.heap.size, 0, none⟩) 0 0) 0 (st0 ss)) (below_box w2 (.cells #[] 149)) (OwnF.empty 149 5 w2 (F5 (st0 ss))))
      clear HL
      go_wp2
      go_loopg [11, 12] ss.length (fun m s z wr => ∃ (k : Nat) (vst vsv : Value) (iv : Nat → Value), m + k = ss.length ∧ z = .int .i64 k ∧ vst = s ∧ LS w wr ([itI (.slice la js.length lcap) js.length (fun i => (jb js i).2.2.2), itI (.slice ka js.length kcap) js.length (fun k => (jb js k).2.2.1), itI (.slice none 0 0) 0 (fun _ => 0), itI (.slice fa js.length fcap) js.length (fun _ => -1), itI (.slice none 0 0) 0 (fun _ => 0), itV vsv k iv, itS vst k (st0 ss)] ++ insL als iv (fun _ _ => -1) k) (.slice none 0 0) (.slice fa js.length fcap) (.slice none 0 0) vsv)
      case atStart => exact ⟨0, _, _, _, by omega, rfl, rfl, L4.out⟩
      case round =>
        obtain ⟨k, vst, vsv, iv, hk, rfl, rfl, hL⟩ := hrel
        have HK := Lib.hid hk
        have HL := Lib.hid hL
        have hkk : k ≤ ss.length := by omega
        have hos : OwnF 149 5 wr (w.heap.size + 2) vst k (F5 (st0 ss)) := hL.pl.ow 6 _ rfl
        have hov : OwnF 26 1 wr (w.heap.size + 2) vsv k iv := hL.pl.ow 5 _ rfl
        obtain ⟨ta, tcap, rfl⟩ := own_shape hos
        obtain ⟨va, vcap, rfl⟩ := own_shape hov
        clear hk hL L4 hos hov
        by_cases hlt : k < ss.length
        · have hk0 : (0 : Int) ≤ k := by omega
          have hk1 : (k : Int) < ss.length := by omega
          obtain ⟨bs, os, es, -, s0, -⟩ := (HS.out.below HL.out.be) k hlt
          have hq : (ab ss k).1 = (aT ss k : Nat) := by have := (ssB_iff.1 HSSV.out).2 k hlt; rw [ab_T]; omega
          rw [hq] at s0
          subst es
          obtain ⟨Q, hQ⟩ : ∃ Q, Q = aT ss k := ⟨_, rfl⟩
          rw [← hQ] at s0
          have hst : [svF (st0 ss k) 0, svF (st0 ss k) 1, svF (st0 ss k) 2, svF (st0 ss k) 3, svF (st0 ss k) 4] = [.int .i64 (Q : Int), .int .i64 0, .int .i64 0, .int .i64 0, .int .i64 0] := by rw [hQ]; rfl
          have HST := Lib.hid hst
          clear hq hQ hst
          go_wp2_with (at_builtin; refine wpList_append_at _ rfl (.tmp 53) (.tmp 60) 147 rfl (w.heap.size + 2) 149 iS _ 5 40 Try.underlying147 HIS.out.1 HIS.out.2.1 HIS.out.2.2.1 HIS.out.2.2.2 rfl (by decide) _ k (vF (F5 (st0 ss)) (k * 5)) rfl ((HL.out.alloc _).pl.ow 6 _ rfl) ⟨wr.heap.size, 0, none⟩ 1 1 [.int .i64 (Q : Int), .int .i64 0, .int .i64 0, .int .i64 0, .int .i64 0] rfl rfl (newsv5 _ _ _ _ _ _ _) (by rw [← HST.out]; exact onev5 _) (by unfold maxLen; omega) (by omega) (HL.out.alloc _).sz (by decide) ?_; intro v1 u1 ho1 hg1 hp1 hn1; rw [← HST.out] at ho1; have L5 := Lib.hid ((HL.out.alloc _).pushS (j := 6) (st' := st0 ss) rfl ho1 (fun _ _ => rfl) hg1 hp1); obtain ⟨a1, c1, rfl⟩ := own_shape ho1; clear ho1 hg1 hp1 hn1)
          obtain ⟨GG, hGG⟩ : ∃ GG, GG = gk := ⟨_, rfl⟩
          have HGG := Lib.hid hGG
          clear hGG
          obtain ⟨AL, hAL⟩ : ∃ AL, AL = [itI (.slice la js.length lcap) js.length (fun i => (jb js i).2.2.2), itI (.slice ka js.length kcap) js.length (fun k => (jb js k).2.2.1), itI (.slice none 0 0) 0 (fun _ => 0), itI (.slice fa js.length fcap) js.length (fun _ => -1), itI (.slice none 0 0) 0 (fun _ => 0), itV (.slice va k vcap) k iv, itS (.slice a1 (k + 1) c1) (k + 1) (st0 ss)] ++ insL als iv (fun _ _ => -1) k := ⟨_, rfl⟩
          have L5' : LS w u1 AL (.slice none 0 0) (.slice fa js.length fcap) (.slice none 0 0) (.slice va k vcap) := by rw [hAL]; exact L5.out
          have HAL := Lib.hid hAL
          have L6 := Lib.hid (L5'.add (i := itI (.slice (some ⟨u1.heap.size, 0, none⟩) 0 0) 0 (fun _ => -1)) (below_box u1 (.cells #[] 3)) (ownI_F (OwnI.empty u1 _)))
          clear hAL L5 L5' HL s0
          obtain ⟨ba, oa, ad, dcap, ea, hba, d0, -, -⟩ := HA.out k (by have := HLEN.out; omega)
          obtain ⟨N, hN⟩ : ∃ N, N = (als.getD k []).length := ⟨_, rfl⟩
          have hN20 : N ≤ 20 := by rw [hN]; exact (alB_iff.1 (HALV.out k (by have := HLEN.out; omega))).1
          rw [← hN] at d0
          have HN := Lib.hid hN
          have HD := Lib.hid d0
          subst ea
          clear hN d0
          go_loopg [13, 14] N (fun m s z wr => ∃ (i : Nat) (vin : Value), m + i = N ∧ z = .int .i64 i ∧ vin = s ∧ LS w wr (AL ++ [itI vin i (fun _ => -1)]) (.slice none 0 0) (.slice fa js.length fcap) (.slice none 0 0) (.slice va k vcap))
          case atStart => exact ⟨0, _, by omega, rfl, rfl, L6.out⟩
          case round =>
            obtain ⟨i, vin, hi, rfl, rfl, hL⟩ := hrel
            have HI2 := Lib.hid hi
            have HL := Lib.hid hL
            have hii : i ≤ N := by omega
            obtain ⟨na, ncap, rfl⟩ := own_shape (hL.pl.getI (get_last AL _))
            have d1 := (hL.be.cell (p := ⟨ba, oa + k, none⟩) hba).trans HD.out
            have hka : (k : Int) < als.length := by have := HLEN.out; omega
            clear hi hL L6
            by_cases hilt : i < N
            · have hi1 : (i : Int) < N := by omega
              go_wp2_with (at_builtin; refine wpList_append_at _ rfl (.tmp 72) (.tmp 73) 26 rfl (w.heap.size + 2) 3 iI _ 1 8 Try.underlying26 HI.out.1 HI.out.2.1 HI.out.2.2.1 HI.out.2.2.2 rfl (by decide) _ i (vals (fun _ => -1) i) rfl ((HL.out.alloc _).pl.getI (get_last AL _)) ⟨wr.heap.size, 0, none⟩ 1 1 [.int .i64 (-1)] rfl rfl (news1 _ _ _) (one1 _) (by unfold maxLen; omega) (by omega) (HL.out.alloc _).sz (by decide) ?_; intro v2 u2 ho2 hg2 hp2 hn2; have L7 := (HL.out.alloc _).pushI (get_last AL _) ho2 hg2 hp2; rw [set_last] at L7; have L8 := L7.congrI (g := fun _ => -1) (get_last AL _) (fun i _ => by split <;> rfl); rw [set_last] at L8; have L9 := Lib.hid L8; obtain ⟨a2, c2, rfl⟩ := own_shape ho2; clear ho2 hg2 hp2 hn2 L7 L8)
              go_roundg (gk - 1)
              case measure => have := HI2.out; omega
              case rel => exact ⟨i + 1, _, by have := HI2.out; omega, by go_num, rfl, L9.out⟩
            · have hi1 : ¬ (i : Int) < N := by omega
              obtain rfl : i = N := by omega
              have y1 := HL.out.c.2.2.2.1
              have y2 := HL.out.c.2.2.2.2 3
              have hsv : (AL ++ [itI (.slice na i ncap) i (fun _ => -1)])[5]? = some (itV (.slice va k vcap) k iv) := by rw [HAL.out]; rfl
              have HSV := Lib.hid hsv
              clear hsv
              go_wp2_with (at_builtin; refine wpList_append_at _ rfl (.tmp 76) (.tmp 78) 64 rfl (w.heap.size + 2) 26 iV _ 1 24 Try.underlying64 HIV.out.1 HIV.out.2.1 HIV.out.2.2.1 HIV.out.2.2.2 rfl (by decide) _ k (vF iv (k * 1)) rfl ((HL.out.alloc _).pl.ow 5 _ HSV.out) ⟨wr.heap.size, 0, none⟩ 1 1 [.slice na i ncap] rfl rfl (news1v _ _ _) (one1s _ _ _) (by unfold maxLen; omega) (by omega) (HL.out.alloc _).sz (by decide) ?_; intro v2 u2 ho2 hg2 hp2 hn2; have L7 := (HL.out.alloc _).pushV HSV.out ho2 hg2 hp2; have y3 := L7.c.2.2.2.2 3; have y4 := L7.c.2.2.2.1; have L9 := Lib.hid L7; obtain ⟨a2, c2, rfl⟩ := own_shape ho2; clear ho2 hg2 hp2 hn2 L7)
              go_roundg (GG - 1)
              case measure => have := HK.out; have := HGG.out; omega
              case rel =>
                refine ⟨k + 1, _, .slice a2 (k + 1) c2, (fun l => if l = k then .slice na i ncap else iv l), by have := HK.out; have := HGG.out; omega, by go_num, rfl, ?_⟩
                have h := L9.out.out3 (.slice a2 (k + 1) c2)
                rw [HAL.out] at h
                rw [insL_succ, ← List.append_assoc, ← HN.out]
                exact h
        · obtain rfl : k = ss.length := by omega
          clear HK
          obtain ⟨C, hC⟩ : ∃ C, C = cbOf js ss als := ⟨_, rfl⟩
          have HCO := Lib.hid (show C.Ok by rw [hC]; exact cb_ok js HSSV.out HLEN.out HALV.out)
          have HCE := Lib.hid (show C.P = edfP js ∧ C.ns = ss.length ∧ (∀ k, C.q k = aT ss k) ∧ (∀ k, C.p k = aX ss k) ∧ (∀ k, C.al k = als.getD k []) ∧ ∀ k, st0 ss k = (C.st 0).sv k by rw [hC]; exact ⟨rfl, rfl, fun _ => rfl, fun _ => rfl, fun _ => rfl, fun _ => rfl⟩)
          have hfit := leg_fits HLEG.out
          have T0 := Lib.hid (show LS w wr (tL js als ss.length (.slice la js.length lcap) (.slice ka js.length kcap) (.slice none 0 0) (.slice fa js.length fcap) (.slice none 0 0) (.slice va ss.length vcap) (.slice ta ss.length tcap) iv (C.jl 0) 0 (fun u => optI (C.run u)) (C.fin 0) 0 (fun u => optI (C.K u)) (C.st 0).sv (C.dn 0)) (.slice none 0 0) (.slice fa js.length fcap) (.slice none 0 0) (.slice va ss.length vcap) from
            (((((HL.out.congrI (j := 0) (g := fun i => (C.jl 0 i : Int)) rfl (fun i hi => by
              have e1 : C.jl 0 i = jex js i := by show C.P.ex i = jex js i; rw [HCE.out.1]; rfl
              rw [e1]
              exact hfit.1.ex i hi)).congrI (j := 1) (g := fun i => (jdl js i : Int)) rfl (fun i hi => hfit.2.2 i hi)).congrI (j := 2) (g := fun u => optI (C.run u)) rfl (fun i hi => absurd hi (Nat.not_lt_zero _))).congrI (j := 4) (g := fun u => optI (C.K u)) rfl (fun i hi => absurd hi (Nat.not_lt_zero _))).congrS (j := 6) (st' := (C.st 0).sv) rfl (fun i _ => HCE.out.2.2.2.2.2 i)))
          have HCQ := Lib.hid hC
          clear HL hC
          have HFIT := Lib.hid hfit
          clear hfit
          go_wp2
          go_loopg [15] 120 (fun m z wr => ∃ (t : Nat) (vr vc : Value), m + t = 120 ∧ z = .int .i64 t ∧ LS w wr (tL js als ss.length (.slice la js.length lcap) (.slice ka js.length kcap) vr (.slice fa js.length fcap) vc (.slice va ss.length vcap) (.slice ta ss.length tcap) iv (C.jl t) t (fun u => optI (C.run u)) (C.fin t) t (fun u => optI (C.K u)) (C.st t).sv (C.dn t)) vr (.slice fa js.length fcap) vc (.slice va ss.length vcap))
          case atStart => exact ⟨0, _, _, rfl, rfl, T0.out⟩
          case round =>
            obtain ⟨t, vr, vc, hk, rfl, hL⟩ := hrel
            have HT := Lib.hid hk
            have HL := Lib.hid hL
            have htt : t ≤ 120 := by omega
            obtain ⟨ra, rcap, rfl⟩ := own_shape (hL.pl.getI (j := 2) rfl)
            obtain ⟨ca, ccap, rfl⟩ := own_shape (hL.pl.getI (j := 4) rfl)
            obtain ⟨GT, hGT⟩ : ∃ GT, GT = gk := ⟨_, rfl⟩
            have HGT := Lib.hid hGT
            clear hk hL T0 hGT
            by_cases htlt : t < 120
            · have htl : (t : Int) < 120 := by omega
              have L0 := Lib.hid (show LS w wr (tL js als ss.length (.slice la js.length lcap) (.slice ka js.length kcap) (.slice ra t rcap) (.slice fa js.length fcap) (.slice ca t ccap) (.slice va ss.length vcap) (.slice ta ss.length tcap) iv (C.jl t) t (fun u => optI (C.run u)) (C.fin t) t (fun u => optI (C.K u)) (fun i => if i < 0 then C.A t i else (C.st t).sv i) (C.dn t)) (.slice ra t rcap) (.slice fa js.length fcap) (.slice ca t ccap) (.slice va ss.length vcap) from HL.out.congrS (j := 6) rfl (fun i _ => by rw [if_neg (Nat.not_lt_zero _)]))
              clear HL
              go_wp2
              go_loopg [16] ss.length (fun m z wr => ∃ k : Nat, m + k = ss.length ∧ z = .int .i64 k ∧ LS w wr (tL js als ss.length (.slice la js.length lcap) (.slice ka js.length kcap) (.slice ra t rcap) (.slice fa js.length fcap) (.slice ca t ccap) (.slice va ss.length vcap) (.slice ta ss.length tcap) iv (C.jl t) t (fun u => optI (C.run u)) (C.fin t) t (fun u => optI (C.K u)) (fun i => if i < k then C.A t i else (C.st t).sv i) (C.dn t)) (.slice ra t rcap) (.slice fa js.length fcap) (.slice ca t ccap) (.slice va ss.length vcap))
              case atStart => exact ⟨0, by omega, rfl, L0.out⟩
              case round =>
                obtain ⟨k, hk, rfl, hL⟩ := hrel
                have HK := Lib.hid hk
                have HL := Lib.hid hL
                have hkk : k ≤ ss.length := by omega
                clear hk hL L0
                by_cases hlt : k < ss.length
                · have hk0 : (0 : Int) ≤ k := by omega
                  have hk1 : (k : Int) < ss.length := by omega
                  have hka : (k : Int) < als.length := by have := HLEN.out; omega
                  have hos : OwnF 149 5 wr (w.heap.size + 2) (.slice ta ss.length tcap) ss.length (F5 (fun i => if i < k then C.A t i else (C.st t).sv i)) := HL.out.pl.ow 6 _ rfl
                  obtain ⟨gt, tc, et⟩ := hos.has (by omega)
                  simp only [Value.slice.injEq] at et
                  obtain ⟨rfl, -, rfl⟩ := et
                  obtain ⟨hgt, -, -, hfz, hcl⟩ := hos.at
                  have f5 : ∀ c, c < 5 → wr.cell? ⟨gt, k * 5 + c, none⟩ = some (svF ((C.st t).sv k) c) := fun c hc => by
                    rw [hcl _ (by omega), F5, show (k * 5 + c) / 5 = k by omega, show (k * 5 + c) % 5 = c by omega, if_neg (Nat.lt_irrefl _)]
                  have c0 := f5 0 (by omega)
                  have c1 := f5 1 (by omega)
                  have c2 := f5 2 (by omega)
                  have c3 := f5 3 (by omega)
                  have c4 := f5 4 (by omega)
                  simp only [svF, Nat.add_zero] at c0 c1 c2 c3 c4
                  obtain ⟨bs, os, es, hbs, s0', s1'⟩ := HS.out k hlt
                  have s0 := (HL.out.be.cell (p := ⟨bs, os + k * 2, none⟩) hbs).trans s0'
                  have s1 := (HL.out.be.cell (p := ⟨bs, os + k * 2 + 1, none⟩) hbs).trans s1'
                  clear s0' s1'
                  have hq : (ab ss k).1 = (aT ss k : Nat) ∧ (ab ss k).2 = (aX ss k : Nat) := by have := (ssB_iff.1 HSSV.out).2 k hlt; rw [ab_T, ab_X]; omega
                  rw [hq.1] at s0
                  rw [hq.2] at s1
                  obtain ⟨ba, oa, ad, dcap, ea, hba, d0', -, hrow0⟩ := HA.out k (by have := HLEN.out; omega)
                  have d0 := (HL.out.be.cell (p := ⟨ba, oa + k, none⟩) hba).trans d0'
                  have hrow := hrow0.below HL.out.be
                  have hgb := (hos.lt gt rfl).1
                  have hsw := HL.out.be.size
                  have hbw : bs < wr.heap.size := by omega
                  have haw : ba < wr.heap.size := by omega
                  have nb1 : ¬ bs = gt := by omega
                  have nb2 : ¬ gt = bs := by omega
                  have na1 : ¬ ba = gt := by omega
                  have na2 : ¬ gt = ba := by omega
                  clear d0' hrow0 hgb hsw
                  have hsq := ss_pos HSSV.out hlt
                  have hcns : k < C.ns := by rw [HCE.out.2.1]; exact hlt
                  have hal := HALV.out k (by have := HLEN.out; omega)
                  have hsv := (sv_le HCO.out hcns (by rw [HCE.out.2.2.2.2.1]; exact hal) (by rw [HCE.out.2.2.1]; omega) (by rw [HCE.out.2.2.2.1]; omega) t htt).1
                  have hscl : ((C.st t).sv k).come ≤ (als.getD k []).length := by have := (Cb.sv_ok HCO.out hcns t).cl; rw [HCE.out.2.2.2.2.1] at this; exact this
                  have CALL := Lib.hid (fun W (hB : Below wr.heap.size wr W) => l5Arrive_any ad dcap ((C.st t).sv k) (aT ss k) (aX ss k) t (als.getD k []) W (hrow.below hB) hal hsv hscl (by omega) (by omega) (by omega))
                  have HAE := Lib.hid (show ((C.st t).sv k).arr (aT ss k) (aX ss k) (als.getD k []) t = C.A t k by rw [C.A_eq, HCE.out.2.2.1, HCE.out.2.2.2.1, HCE.out.2.2.2.2.1])
                  have HFZ := Lib.hid hfz
                  have HGT2 := Lib.hid hgt
                  obtain ⟨Q, hQ⟩ : ∃ Q, Q = aT ss k := ⟨_, rfl⟩
                  obtain ⟨P, hP⟩ : ∃ P, P = aX ss k := ⟨_, rfl⟩
                  obtain ⟨c, hc⟩ : ∃ c, c = (C.st t).sv k := ⟨_, rfl⟩
                  obtain ⟨N, hN⟩ : ∃ N, N = (als.getD k []).length := ⟨_, rfl⟩
                  rw [← hQ] at s0 CALL HAE
                  rw [← hP] at s1 CALL HAE
                  rw [← hc] at c0 c1 c2 c3 c4 CALL HAE
                  rw [← hN] at d0 CALL
                  subst es ea
                  clear hos hcl f5 hq hrow hsq hcns hal hsv hscl hfz hgt hQ hP hc hN hbs hba
                  unfold svV at CALL
                  go_wp2
                  refine wp_region_held_drew (S := fun w' => w'.cell? ⟨bs, os + k * 2, none⟩ = some (.int .i64 (Q : Int)) ∧ w'.cell? ⟨bs, os + k * 2 + 1, none⟩ = some (.int .i64 (P : Int)) ∧ w'.cell? ⟨ba, oa + k, none⟩ = some (.slice ad N dcap)) (by kernel_rfl) ?_ (fun hHeld => ?_)
                  · (try dsimp only)
                    exact ⟨s0, s1, d0⟩
                  refine wpAnyH_take (i := 0) (v := ?_) (toArr_get _ 0 _ rfl) (by kernel_rfl) (by kernel_rfl) (by kernel_rfl) (fun _ _ _ h => h) (Or.inl ⟨by rfl, ?_⟩) (by assumption) ?_
                  rotate_left
                  · (intro w hSw; (try dsimp only at hSw); go_simp; (try with_reducible rfl))
                  (try simp only [Act.put, List.setIfInBounds_toArray, List.set_cons_zero, List.set_cons_succ])
                  refine wpAnyH_take (i := 1) (v := ?_) (toArr_get _ 1 _ rfl) (by kernel_rfl) (by kernel_rfl) (by kernel_rfl) (fun _ _ _ h => h) (Or.inl ⟨by rfl, ?_⟩) (by assumption) ?_
                  rotate_left
                  · (intro w hSw; (try dsimp only at hSw); go_simp; (try with_reducible rfl))
                  (try simp only [Act.put, List.setIfInBounds_toArray, List.set_cons_zero, List.set_cons_succ])
                  refine wpAnyH_take (i := 2) (v := ?_) (toArr_get _ 2 _ rfl) (by kernel_rfl) (by kernel_rfl) (by kernel_rfl) (fun _ _ _ h => h) (Or.inl ⟨by rfl, ?_⟩) (by assumption) ?_
                  rotate_left
                  · (intro w hSw; (try dsimp only at hSw); go_simp; (try with_reducible rfl))
                  (try simp only [Act.put, List.setIfInBounds_toArray, List.set_cons_zero, List.set_cons_succ])
                  refine wpAnyH_take (i := 3) (v := ?_) (toArr_get _ 3 _ rfl) (by kernel_rfl) (by kernel_rfl) (by kernel_rfl) (fun _ _ _ h => h) (Or.inl ⟨by rfl, ?_⟩) (by assumption) ?_
                  rotate_left
                  · (intro w hSw; (try dsimp only at hSw); go_simp; (try with_reducible rfl))
                  (try simp only [Act.put, List.setIfInBounds_toArray, List.set_cons_zero, List.set_cons_succ])
                  refine wpAnyH_take (i := 4) (v := ?_) (toArr_get _ 4 _ rfl) (by kernel_rfl) (by kernel_rfl) (by kernel_rfl) (fun _ _ _ h => h) (Or.inl ⟨by rfl, ?_⟩) (by assumption) ?_
                  rotate_left
                  · (intro w hSw; (try dsimp only at hSw); go_simp; (try with_reducible rfl))
                  (try simp only [Act.put, List.setIfInBounds_toArray, List.set_cons_zero, List.set_cons_succ])
                  refine wpAnyH_take (i := 6) (v := ?_) (toArr_get _ 6 _ rfl) (by kernel_rfl) (by kernel_rfl) (by kernel_rfl) (fun _ _ _ h => h) (Or.inl ⟨by rfl, ?_⟩) (by assumption) ?_
                  rotate_left
                  · (intro w hSw; (try dsimp only at hSw); go_simp; (try with_reducible rfl))
                  (try simp only [Act.put, List.setIfInBounds_toArray, List.set_cons_zero, List.set_cons_succ])
                  refine wpAnyH_take (i := 7) (v := ?_) (toArr_get _ 7 _ rfl) (by kernel_rfl) (by kernel_rfl) (by kernel_rfl) (fun _ _ _ h => h) (Or.inl ⟨by rfl, ?_⟩) (by assumption) ?_
                  rotate_left
                  · (intro w hSw; (try dsimp only at hSw); go_simp; (try with_reducible rfl))
                  (try simp only [Act.put, List.setIfInBounds_toArray, List.set_cons_zero, List.set_cons_succ])
                  refine wpAnyH_take (i := 8) (v := ?_) (toArr_get _ 8 _ rfl) (by kernel_rfl) (by kernel_rfl) (by kernel_rfl) (fun _ _ _ h => h) (Or.inl ⟨by rfl, ?_⟩) (by assumption) ?_
                  rotate_left
                  · (intro w hSw; (try dsimp only at hSw); go_simp; (try with_reducible rfl))
                  (try simp only [Act.put, List.setIfInBounds_toArray, List.set_cons_zero, List.set_cons_succ])
                  refine wpAnyH_take (i := 9) (v := ?_) (toArr_get _ 9 _ rfl) (by kernel_rfl) (by kernel_rfl) (by kernel_rfl) (fun _ _ _ h => h) (Or.inl ⟨by rfl, ?_⟩) (by assumption) ?_
                  rotate_left
                  · (intro w hSw; (try dsimp only at hSw); go_simp; (try with_reducible rfl))
                  (try simp only [Act.put, List.setIfInBounds_toArray, List.set_cons_zero, List.set_cons_succ])
                  refine wpAnyH_take (i := 10) (v := ?_) (toArr_get _ 10 _ rfl) (by kernel_rfl) (by kernel_rfl) (by kernel_rfl) (fun _ _ _ h => h) (Or.inl ⟨by rfl, ?_⟩) (by assumption) ?_
                  rotate_left
                  · (intro w hSw; (try dsimp only at hSw); go_simp; (try with_reducible rfl))
                  (try simp only [Act.put, List.setIfInBounds_toArray, List.set_cons_zero, List.set_cons_succ])
                  refine wpAnyH_take (i := 11) (v := ?_) (toArr_get _ 11 _ rfl) (by kernel_rfl) (by kernel_rfl) (by kernel_rfl) (fun _ _ _ h => h) (Or.inl ⟨by rfl, ?_⟩) (by assumption) ?_
                  rotate_left
                  · (intro w hSw; (try dsimp only at hSw); go_simp; (try with_reducible rfl))
                  (try simp only [Act.put, List.setIfInBounds_toArray, List.set_cons_zero, List.set_cons_succ])
                  refine wpAnyH_take (i := 12) (v := ?_) (toArr_get _ 12 _ rfl) (by kernel_rfl) (by kernel_rfl) (by kernel_rfl) (fun _ _ _ h => h) (Or.inl ⟨by rfl, ?_⟩) (by assumption) ?_
                  rotate_left
                  · (intro w hSw; (try dsimp only at hSw); go_simp; (try with_reducible rfl))
                  (try simp only [Act.put, List.setIfInBounds_toArray, List.set_cons_zero, List.set_cons_succ])
                  refine wpAnyH_take (i := 13) (v := ?_) (toArr_get _ 13 _ rfl) (by kernel_rfl) (by kernel_rfl) (by kernel_rfl) (fun _ _ _ h => h) (Or.inl ⟨by rfl, ?_⟩) (by assumption) ?_
                  rotate_left
                  · (intro w hSw; (try dsimp only at hSw); go_simp; (try with_reducible rfl))
                  (try simp only [Act.put, List.setIfInBounds_toArray, List.set_cons_zero, List.set_cons_succ])
                  refine wpAnyH_take (i := 14) (v := ?_) (toArr_get _ 14 _ rfl) (by kernel_rfl) (by kernel_rfl) (by kernel_rfl) (fun _ _ _ h => h) (Or.inl ⟨by rfl, ?_⟩) (by assumption) ?_
                  rotate_left
                  · (intro w hSw; (try dsimp only at hSw); go_simp; (try with_reducible rfl))
                  (try simp only [Act.put, List.setIfInBounds_toArray, List.set_cons_zero, List.set_cons_succ])
                  refine wpAnyH_ready (rs := [5]) (by kernel_rfl) (by simp) ?_
                  refine AllReadyH.cons (toArr_get _ 5 _ rfl) (fun K hK => ?_) ?_
                  · go_simp
                    refine hK.out _ _ ?_ (fun hHeld2 => ?_)
                    · (try dsimp only)
                      exact ⟨s0, s1, d0⟩
                    clear hK K hHeld
                    have hHeld := hHeld2
                    clear hHeld2
                    (try simp only [Act.put, List.setIfInBounds_toArray, List.set_cons_zero, List.set_cons_succ])
                    refine wpAnyH_ready (rs := [15]) (by kernel_rfl) (by simp) ?_
                    refine AllReadyH.cons (toArr_get _ 15 _ rfl) (fun K hK => ?_) ?_
                    · go_simp
                      refine (CALL.out _ (Below.refl _ _).drew).mono ?_
                      rintro e w4 ⟨rfl, b4⟩
                      rw [HAE.out]
                      have B4 : Below wr.heap.size wr w4 := (Below.refl _ _).drew.trans b4
                      have z0 := (B4.frozen (p := ⟨gt, k * 5, none⟩) HGT2.out).trans (HFZ.out (k * 5))
                      have y0 := (B4.cell (p := ⟨gt, k * 5, none⟩) HGT2.out).trans c0
                      have z1 := (B4.frozen (p := ⟨gt, k * 5 + 1, none⟩) HGT2.out).trans (HFZ.out (k * 5 + 1))
                      have y1 := (B4.cell (p := ⟨gt, k * 5 + 1, none⟩) HGT2.out).trans c1
                      have z2 := (B4.frozen (p := ⟨gt, k * 5 + 2, none⟩) HGT2.out).trans (HFZ.out (k * 5 + 2))
                      have y2 := (B4.cell (p := ⟨gt, k * 5 + 2, none⟩) HGT2.out).trans c2
                      have z3 := (B4.frozen (p := ⟨gt, k * 5 + 3, none⟩) HGT2.out).trans (HFZ.out (k * 5 + 3))
                      have y3 := (B4.cell (p := ⟨gt, k * 5 + 3, none⟩) HGT2.out).trans c3
                      have z4 := (B4.frozen (p := ⟨gt, k * 5 + 4, none⟩) HGT2.out).trans (HFZ.out (k * 5 + 4))
                      have y4 := (B4.cell (p := ⟨gt, k * 5 + 4, none⟩) HGT2.out).trans c4
                      clear b4
                      go_wp2_with fail
                      refine hK.out _ _ ?_ (fun hHeld2 => ?_)
                      · (try dsimp only)
                        exact ⟨(B4.cell (p := ⟨bs, os + k * 2, none⟩) hbw).trans s0, (B4.cell (p := ⟨bs, os + k * 2 + 1, none⟩) hbw).trans s1, (B4.cell (p := ⟨ba, oa + k, none⟩) haw).trans d0⟩
                      clear hK K hHeld
                      have hHeld := hHeld2
                      clear hHeld2
                      (try simp only [Act.put, List.setIfInBounds_toArray, List.set_cons_zero, List.set_cons_succ])
                      refine wpAnyH_take (i := 16) (v := ?_) (toArr_get _ 16 _ rfl) (by kernel_rfl) (by kernel_rfl) (by kernel_rfl) (fun _ _ _ h => h) (Or.inl ⟨by rfl, ?_⟩) (by assumption) ?_
                      rotate_left
                      · (intro w hSw; (try dsimp only at hSw); go_simp; (try with_reducible rfl))
                      (try simp only [Act.put, List.setIfInBounds_toArray, List.set_cons_zero, List.set_cons_succ])
                      refine wpAnyH_ready (rs := [17]) (by kernel_rfl) (by simp) ?_
                      refine AllReadyH.cons (toArr_get _ 17 _ rfl) (fun K hK => ?_) ?_
                      · go_simp
                        refine hK.out _ _ ?_ (fun hHeld2 => ?_)
                        · (try dsimp only)
                          (refine ⟨?_, ?_, ?_⟩ <;> simp [go_sem, hHeld.1, hHeld.2.1, hHeld.2.2])
                        clear hK K hHeld
                        have hHeld := hHeld2
                        clear hHeld2
                        (try simp only [Act.put, List.setIfInBounds_toArray, List.set_cons_zero, List.set_cons_succ])
                        refine wpAnyH_done (by kernel_rfl) ?_ _
                        have LA := Lib.hid ((HL.out.below B4).setS (j := 6) (k := k) (c := C.A t k) (st' := fun i => if i < k + 1 then C.A t i else (C.st t).sv i) rfl hlt rfl (fun i _ => by
                          by_cases e : i = k
                          · subst e; rw [if_pos rfl, if_pos (by omega)]
                          · rw [if_neg e]
                            by_cases e2 : i < k
                            · rw [if_pos e2, if_pos (by omega)]
                            · rw [if_neg e2, if_neg (by omega)]))
                        go_wp2
                        go_roundg (gk - 1)
                        case measure => have := HK.out; omega
                        case rel => exact ⟨k + 1, by have := HK.out; omega, by go_num, LA.out⟩
                      exact AllReadyH.nil
                    exact AllReadyH.nil
                  exact AllReadyH.nil
                · obtain rfl : k = ss.length := by omega
                  have LA := Lib.hid (show LS w wr (tL js als ss.length (.slice la js.length lcap) (.slice ka js.length kcap) (.slice ra t rcap) (.slice fa js.length fcap) (.slice ca t ccap) (.slice va ss.length vcap) (.slice ta ss.length tcap) iv (C.jl t) t (fun u => optI (C.run u)) (C.fin t) t (fun u => optI (C.K u)) (C.A t) (C.dn t)) (.slice ra t rcap) (.slice fa js.length fcap) (.slice ca t ccap) (.slice va ss.length vcap) from HL.out.congrS (j := 6) rfl (fun i hi => by rw [if_pos hi]))
                  have HJE := Lib.hid (show best (jrel js) (C.jl t) (jdl js) t js.length = C.J t by unfold Cb.J Cb.jobS; rw [HCE.out.1]; rfl)
                  have HKE := Lib.hid (show pickS (C.A t) (C.lim t) ss.length = C.K t by rw [← HCE.out.2.1]; rfl)
                  clear HL HK
                  go_wp2_with fail
                  refine (l3Best_any _ _ _ _ _ _ js (jrel js) (C.jl t) (jdl js) t _ (HJ.out.below LA.out.be) (fun k hk => HFIT.out.1.rel k hk) (LA.out.pl.getI (j := 0) rfl).intF' (LA.out.pl.getI (j := 1) rfl).intF' h60).mono ?_
                  rintro e w4 ⟨rfl, b4⟩
                  rw [HJE.out]
                  have L4 := Lib.hid (LA.out.below b4)
                  clear LA b4 HJE
                  cases hJ : C.J t with
                  | none =>
                    have HJ0 := Lib.hid hJ
                    have hlim : C.lim t = 1073741824 := (Cb.J_none hJ).2
                    rw [hlim] at HKE
                    clear hJ hlim
                    simp only [optI]
                    go_wp2_with fail
                    refine (l5Pick_any _ _ ss.length _ (C.A t) _ (L4.out.pl.rowSt (j := 6) rfl) (by omega)).mono ?_
                    rintro e w5 ⟨rfl, b5⟩
                    have L5 := Lib.hid (L4.out.below b5)
                    rw [HKE.out]
                    have y1 := L5.out.c.2.2.1
                    have y2 := L5.out.c.2.2.2.2 2
                    clear L4 b5
                    cases hK : C.K t with
                    | none =>
                      have HK0 := Lib.hid hK
                      have hrun : C.run t = none := by unfold Cb.run; rw [hK]; exact HJ0.out
                      have HRUN := Lib.hid hrun
                      clear hK hrun
                      simp only [optI]
                      go_wp2_with (first
                        | (at_builtin; refine wpList_append_at _ rfl (.tmp 123) (.tmp 125) 26 rfl (w.heap.size + 2) 3 iI _ 1 8 Try.underlying26 HI.out.1 HI.out.2.1 HI.out.2.2.1 HI.out.2.2.2 rfl (by decide) _ t (vals (fun u => optI (C.K u)) t) rfl ((L5.out.alloc _).pl.getI (j := 4) rfl) ⟨w5.heap.size, 0, none⟩ 1 1 [.int .i64 (-1)] rfl rfl (news1 _ _ _) (one1 _) (by unfold maxLen; omega) (by omega) (L5.out.alloc _).sz (by decide) ?_; intro v6 u6 ho6 hg6 hp6 hn6; have L6 := (L5.out.alloc _).pushI (j := 4) rfl ho6 hg6 hp6; obtain ⟨a6, c6, rfl⟩ := own_shape ho6; have q0 := L6.c.1; have q1 := L6.c.2.2.2.2 2; have q2 := L6.c.2.2.2.2 0; have q3 := L6.c.2.2.1; have q4 := L6.c.2.2.2.1; have L7 := Lib.hid (L6.out2 (.slice a6 (t + 1) c6)); clear ho6 hg6 hp6 hn6 L6)
                        | (at_builtin; refine wpList_append_at _ rfl (.tmp 176) (.tmp 178) 26 rfl (w.heap.size + 2) 3 iI _ 1 8 Try.underlying26 HI.out.1 HI.out.2.1 HI.out.2.2.1 HI.out.2.2.2 rfl (by decide) _ t (vals (fun u => optI (C.run u)) t) rfl ((L7.out.alloc _).pl.getI (j := 2) rfl) ⟨u6.heap.size, 0, none⟩ 1 1 [.int .i64 (-1)] rfl rfl (by simpa using news1 (u6.setCell ⟨w.heap.size + 1, 2, none⟩ (.slice a6 (t + 1) c6)) (-1) 3) (one1 _) (by unfold maxLen; omega) (by omega) (L7.out.alloc _).sz (by decide) ?_; intro v8 u8 ho8 hg8 hp8 hn8; have L8 := (L7.out.alloc _).pushI (j := 2) rfl ho8 hg8 hp8; obtain ⟨a8, c8, rfl⟩ := own_shape ho8; have r0 := L8.c.1; have r1 := L8.c.2.2.2.2 0; have L9 := Lib.hid (L8.out0 (.slice a8 (t + 1) c8)); clear ho8 hg8 hp8 hn8 L8))
                      have LF := Lib.hid (show LS w _ (tL js als ss.length (.slice la js.length lcap) (.slice ka js.length kcap) (.slice a8 (t + 1) c8) (.slice fa js.length fcap) (.slice a6 (t + 1) c6) (.slice va ss.length vcap) (.slice ta ss.length tcap) iv (C.jl (t + 1)) (t + 1) (fun u => optI (C.run u)) (C.fin (t + 1)) (t + 1) (fun u => optI (C.K u)) (C.st (t + 1)).sv (C.dn (t + 1))) (.slice a8 (t + 1) c8) (.slice fa js.length fcap) (.slice a6 (t + 1) c6) (.slice va ss.length vcap) from LS.tick (js := js) (als := als) (lf := C.jl t) (fn := C.fin t) (st := C.A t) (d := C.dn t) L9.out (fun i _ => by rw [C.jl_succ, HRUN.out]; simp) (fun i hi => by
                        by_cases e : i = t
                        · subst e; rw [if_pos rfl, HRUN.out]; rfl
                        · rw [if_neg e]) (fun i _ => by rw [Cb.fin_succ, HRUN.out]; simp) (fun i hi => by
                        by_cases e : i = t
                        · subst e; rw [if_pos rfl, HK0.out]; rfl
                        · rw [if_neg e]) (fun i _ => by rw [C.sv_succ, HK0.out]; simp) (fun i _ => by funext l; rw [Cb.dn_succ, HK0.out]; simp))
                      go_roundg (GT - 1)
                      case measure => have := HGT.out; have := HT.out; omega
                      case rel => exact ⟨t + 1, _, _, by have := HGT.out; have := HT.out; omega, by go_num, LF.out⟩
                    | some kk =>
                      have HK0 := Lib.hid hK
                      have hrun : C.run t = none := by unfold Cb.run; rw [hK]
                      have HRUN := Lib.hid hrun
                      obtain ⟨hkn, hpend, -, -⟩ := Cb.K_some hK
                      have hkk : kk < ss.length := by rw [HCE.out.2.1] at hkn; exact hkn
                      have hos : OwnF 149 5 w5 (w.heap.size + 2) (.slice ta ss.length tcap) ss.length (F5 (C.A t)) := L5.out.pl.ow 6 _ rfl
                      obtain ⟨gt, tc, et⟩ := hos.has (by omega)
                      simp only [Value.slice.injEq] at et
                      obtain ⟨rfl, -, rfl⟩ := et
                      have hgb := (hos.lt gt rfl).1
                      have ngB : ¬ gt = w.heap.size + 1 := by omega
                      have ngB2 : ¬ w.heap.size + 1 = gt := by omega
                      have hk0 : (0 : Int) ≤ kk := by omega
                      have hk1 : (kk : Int) < ss.length := by omega
                      have hka : (kk : Int) < als.length := by have := HLEN.out; omega
                      have hal := HALV.out kk (by have := HLEN.out; omega)
                      have hsq := ss_pos HSSV.out hkk
                      have hsv := (sv_le HCO.out hkn (by rw [HCE.out.2.2.2.2.1]; exact hal) (by rw [HCE.out.2.2.1]; omega) (by rw [HCE.out.2.2.2.1]; omega) t htt).2
                      have ok := Cb.A_ok HCO.out hkn t
                      rw [HCE.out.2.2.2.2.1] at ok
                      obtain ⟨c, hc⟩ : ∃ c, c = C.A t kk := ⟨_, rfl⟩
                      obtain ⟨c', hc'⟩ : ∃ c', c' = (C.st (t + 1)).sv kk := ⟨_, rfl⟩
                      have hse : c.serve (aT ss kk) (aX ss kk) (als.getD kk []) = c' := by rw [hc, hc', C.sv_succ, if_pos hK, HCE.out.2.2.1, HCE.out.2.2.2.1, HCE.out.2.2.2.2.1]
                      rw [← hc] at hpend hsv ok
                      have HCC := Lib.hid (And.intro hc hc')
                      obtain ⟨bs, os, es, hbs, s0', s1'⟩ := HS.out kk hkk
                      have hq : (ab ss kk).1 = (aT ss kk : Nat) ∧ (ab ss kk).2 = (aX ss kk : Nat) := by have := (ssB_iff.1 HSSV.out).2 kk hkk; rw [ab_T, ab_X]; omega
                      rw [hq.1] at s0'
                      rw [hq.2] at s1'
                      obtain ⟨ba, oa, ad, dcap, ea, hba, d0', -, hrow0⟩ := HA.out kk (by have := HLEN.out; omega)
                      have nb1 : ¬ bs = gt := by omega
                      have na1 : ¬ ba = gt := by omega
                      have hsh := own_shape (L5.out.pl.getI (tL_get (k := kk) hkk))
                      have hhN : c.head < (als.getD kk []).length := by have := ok.cl; omega
                      obtain ⟨Q, hQ⟩ : ∃ Q, Q = aT ss kk := ⟨_, rfl⟩
                      obtain ⟨P, hP⟩ : ∃ P, P = aX ss kk := ⟨_, rfl⟩
                      obtain ⟨N, hN⟩ : ∃ N, N = (als.getD kk []).length := ⟨_, rfl⟩
                      have hN20 : N ≤ 20 := by rw [hN]; exact (alB_iff.1 hal).1
                      have CALL0 := Lib.hid (fun W (hR : Row2 W ad (als.getD kk [])) => l5Serve_any ad dcap c (aT ss kk) (aX ss kk) (als.getD kk []) W hR hal hsv ok.cl ok.l1 (ok.r1 hpend) hpend (by omega))
                      rw [← hQ] at s0' CALL0 hse
                      rw [← hP] at s1' CALL0 hse
                      rw [← hN] at d0' CALL0 hhN
                      unfold svV at CALL0
                      have HAE := Lib.hid hse
                      have HROW := Lib.hid hrow0
                      have HSD := Lib.hid (And.intro s0' (And.intro s1' d0'))
                      have HN := Lib.hid hN
                      have hh20 : c.head ≤ 20 := hsv.2.2.2.1
                      have HBND := Lib.hid (And.intro hpend hsv)
                      obtain ⟨ia, ic, hiv⟩ := hsh
                      rw [← hN] at hiv
                      have HIV2 := Lib.hid hiv
                      subst es ea
                      have hbz : bs < w.heap.size := hbs
                      have haz : ba < w.heap.size := hba
                      clear hK hrun hkn hos hal hsq hc hc' hse s0' s1' d0' hq hrow0 hQ hP hN hiv ok hpend hsv hbs hba
                      simp only [optI]
                      go_wp2_with (at_builtin; refine wpList_append_at _ rfl (.tmp 123) (.tmp 125) 26 rfl (w.heap.size + 2) 3 iI _ 1 8 Try.underlying26 HI.out.1 HI.out.2.1 HI.out.2.2.1 HI.out.2.2.2 rfl (by decide) _ t (vals (fun u => optI (C.K u)) t) rfl ((L5.out.alloc _).pl.getI (j := 4) rfl) ⟨w5.heap.size, 0, none⟩ 1 1 [.int .i64 (kk : Int)] rfl rfl (news1 _ _ _) (one1 _) (by unfold maxLen; omega) (by omega) (L5.out.alloc _).sz (by decide) ?_; intro v6 u6 ho6 hg6 hp6 hn6; have L6 := (L5.out.alloc _).pushI (j := 4) rfl ho6 hg6 hp6; obtain ⟨a6, c6, rfl⟩ := own_shape ho6; have q0 := L6.c.1; have q1 := L6.c.2.2.2.2 2; have q2 := L6.c.2.2.2.2 0; have q3 := L6.c.2.2.1; have q4 := L6.c.2.2.2.1; have h34 := (L6.stAt (j := 6) rfl hkk).1 3 (by omega); rw [← HCC.out.1] at h34; simp only [svF] at h34; have L7 := Lib.hid (L6.out2 (.slice a6 (t + 1) c6)); clear ho6 hg6 hp6 hn6 L6)
                      obtain ⟨w7, hw7⟩ : ∃ w7, w7 = u6.setCell ⟨w.heap.size + 1, 2, none⟩ (.slice a6 (t + 1) c6) := ⟨_, rfl⟩
                      rw [← hw7] at L7 ⊢
                      clear hw7 q0 q1 q2 q3 q4 h34 y1 y2
                      have hst := L7.out.stAt (j := 6) (k := kk) rfl hkk
                      rw [← HCC.out.1] at hst
                      have e0 := hst.1 0 (by omega)
                      have e1 := hst.1 1 (by omega)
                      have e2 := hst.1 2 (by omega)
                      have e3 := hst.1 3 (by omega)
                      have e4 := hst.1 4 (by omega)
                      simp only [svF, Nat.add_zero] at e0 e1 e2 e3 e4
                      have HFZ := Lib.hid hst.2.1
                      have HGT2 := Lib.hid hst.2.2.1
                      have s0 := (L7.out.be.cell (p := ⟨bs, os + kk * 2, none⟩) hbz).trans HSD.out.1
                      have s1 := (L7.out.be.cell (p := ⟨bs, os + kk * 2 + 1, none⟩) hbz).trans HSD.out.2.1
                      have d0 := (L7.out.be.cell (p := ⟨ba, oa + kk, none⟩) haz).trans HSD.out.2.2
                      have hbw : bs < w7.heap.size := by have := L7.out.be.size; omega
                      have haw : ba < w7.heap.size := by have := L7.out.be.size; omega
                      have CALL := Lib.hid (fun W (hB : Below w7.heap.size w7 W) => CALL0.out W ((HROW.out.below L7.out.be).below hB))
                      clear hst CALL0
                      refine wp_region_held_drew (S := fun w' => w'.cell? ⟨bs, os + kk * 2, none⟩ = some (.int .i64 (Q : Int)) ∧ w'.cell? ⟨bs, os + kk * 2 + 1, none⟩ = some (.int .i64 (P : Int)) ∧ w'.cell? ⟨ba, oa + kk, none⟩ = some (.slice ad N dcap)) (by kernel_rfl) ?_ (fun hHeld => ?_)
                      · (try dsimp only)
                        exact ⟨s0, s1, d0⟩
                      refine wpAnyH_take (i := 0) (v := ?_) (toArr_get _ 0 _ rfl) (by kernel_rfl) (by kernel_rfl) (by kernel_rfl) (fun _ _ _ h => h) (Or.inl ⟨by rfl, ?_⟩) (by assumption) ?_
                      rotate_left
                      · (intro w hSw; (try dsimp only at hSw); go_simp; (try with_reducible rfl))
                      (try simp only [Act.put, List.setIfInBounds_toArray, List.set_cons_zero, List.set_cons_succ])
                      refine wpAnyH_take (i := 1) (v := ?_) (toArr_get _ 1 _ rfl) (by kernel_rfl) (by kernel_rfl) (by kernel_rfl) (fun _ _ _ h => h) (Or.inl ⟨by rfl, ?_⟩) (by assumption) ?_
                      rotate_left
                      · (intro w hSw; (try dsimp only at hSw); go_simp; (try with_reducible rfl))
                      (try simp only [Act.put, List.setIfInBounds_toArray, List.set_cons_zero, List.set_cons_succ])
                      refine wpAnyH_take (i := 2) (v := ?_) (toArr_get _ 2 _ rfl) (by kernel_rfl) (by kernel_rfl) (by kernel_rfl) (fun _ _ _ h => h) (Or.inl ⟨by rfl, ?_⟩) (by assumption) ?_
                      rotate_left
                      · (intro w hSw; (try dsimp only at hSw); go_simp; (try with_reducible rfl))
                      (try simp only [Act.put, List.setIfInBounds_toArray, List.set_cons_zero, List.set_cons_succ])
                      refine wpAnyH_take (i := 3) (v := ?_) (toArr_get _ 3 _ rfl) (by kernel_rfl) (by kernel_rfl) (by kernel_rfl) (fun _ _ _ h => h) (Or.inl ⟨by rfl, ?_⟩) (by assumption) ?_
                      rotate_left
                      · (intro w hSw; (try dsimp only at hSw); go_simp; (try with_reducible rfl))
                      (try simp only [Act.put, List.setIfInBounds_toArray, List.set_cons_zero, List.set_cons_succ])
                      refine wpAnyH_take (i := 4) (v := ?_) (toArr_get _ 4 _ rfl) (by kernel_rfl) (by kernel_rfl) (by kernel_rfl) (fun _ _ _ h => h) (Or.inl ⟨by rfl, ?_⟩) (by assumption) ?_
                      rotate_left
                      · (intro w hSw; (try dsimp only at hSw); go_simp; (try with_reducible rfl))
                      (try simp only [Act.put, List.setIfInBounds_toArray, List.set_cons_zero, List.set_cons_succ])
                      refine wpAnyH_take (i := 6) (v := ?_) (toArr_get _ 6 _ rfl) (by kernel_rfl) (by kernel_rfl) (by kernel_rfl) (fun _ _ _ h => h) (Or.inl ⟨by rfl, ?_⟩) (by assumption) ?_
                      rotate_left
                      · (intro w hSw; (try dsimp only at hSw); go_simp; (try with_reducible rfl))
                      (try simp only [Act.put, List.setIfInBounds_toArray, List.set_cons_zero, List.set_cons_succ])
                      refine wpAnyH_take (i := 7) (v := ?_) (toArr_get _ 7 _ rfl) (by kernel_rfl) (by kernel_rfl) (by kernel_rfl) (fun _ _ _ h => h) (Or.inl ⟨by rfl, ?_⟩) (by assumption) ?_
                      rotate_left
                      · (intro w hSw; (try dsimp only at hSw); go_simp; (try with_reducible rfl))
                      (try simp only [Act.put, List.setIfInBounds_toArray, List.set_cons_zero, List.set_cons_succ])
                      refine wpAnyH_take (i := 8) (v := ?_) (toArr_get _ 8 _ rfl) (by kernel_rfl) (by kernel_rfl) (by kernel_rfl) (fun _ _ _ h => h) (Or.inl ⟨by rfl, ?_⟩) (by assumption) ?_
                      rotate_left
                      · (intro w hSw; (try dsimp only at hSw); go_simp; (try with_reducible rfl))
                      (try simp only [Act.put, List.setIfInBounds_toArray, List.set_cons_zero, List.set_cons_succ])
                      refine wpAnyH_take (i := 9) (v := ?_) (toArr_get _ 9 _ rfl) (by kernel_rfl) (by kernel_rfl) (by kernel_rfl) (fun _ _ _ h => h) (Or.inl ⟨by rfl, ?_⟩) (by assumption) ?_
                      rotate_left
                      · (intro w hSw; (try dsimp only at hSw); go_simp; (try with_reducible rfl))
                      (try simp only [Act.put, List.setIfInBounds_toArray, List.set_cons_zero, List.set_cons_succ])
                      refine wpAnyH_take (i := 10) (v := ?_) (toArr_get _ 10 _ rfl) (by kernel_rfl) (by kernel_rfl) (by kernel_rfl) (fun _ _ _ h => h) (Or.inl ⟨by rfl, ?_⟩) (by assumption) ?_
                      rotate_left
                      · (intro w hSw; (try dsimp only at hSw); go_simp; (try with_reducible rfl))
                      (try simp only [Act.put, List.setIfInBounds_toArray, List.set_cons_zero, List.set_cons_succ])
                      refine wpAnyH_take (i := 11) (v := ?_) (toArr_get _ 11 _ rfl) (by kernel_rfl) (by kernel_rfl) (by kernel_rfl) (fun _ _ _ h => h) (Or.inl ⟨by rfl, ?_⟩) (by assumption) ?_
                      rotate_left
                      · (intro w hSw; (try dsimp only at hSw); go_simp; (try with_reducible rfl))
                      (try simp only [Act.put, List.setIfInBounds_toArray, List.set_cons_zero, List.set_cons_succ])
                      refine wpAnyH_take (i := 12) (v := ?_) (toArr_get _ 12 _ rfl) (by kernel_rfl) (by kernel_rfl) (by kernel_rfl) (fun _ _ _ h => h) (Or.inl ⟨by rfl, ?_⟩) (by assumption) ?_
                      rotate_left
                      · (intro w hSw; (try dsimp only at hSw); go_simp; (try with_reducible rfl))
                      (try simp only [Act.put, List.setIfInBounds_toArray, List.set_cons_zero, List.set_cons_succ])
                      refine wpAnyH_take (i := 13) (v := ?_) (toArr_get _ 13 _ rfl) (by kernel_rfl) (by kernel_rfl) (by kernel_rfl) (fun _ _ _ h => h) (Or.inl ⟨by rfl, ?_⟩) (by assumption) ?_
                      rotate_left
                      · (intro w hSw; (try dsimp only at hSw); go_simp; (try with_reducible rfl))
                      (try simp only [Act.put, List.setIfInBounds_toArray, List.set_cons_zero, List.set_cons_succ])
                      refine wpAnyH_ready (rs := [5]) (by kernel_rfl) (by simp) ?_
                      refine AllReadyH.cons (toArr_get _ 5 _ rfl) (fun K hK => ?_) ?_
                      · go_simp
                        refine hK.out _ _ ?_ (fun hHeld2 => ?_)
                        · (try dsimp only)
                          exact ⟨s0, s1, d0⟩
                        clear hK K hHeld
                        have hHeld := hHeld2
                        clear hHeld2
                        (try simp only [Act.put, List.setIfInBounds_toArray, List.set_cons_zero, List.set_cons_succ])
                        refine wpAnyH_ready (rs := [14]) (by kernel_rfl) (by simp) ?_
                        refine AllReadyH.cons (toArr_get _ 14 _ rfl) (fun K hK => ?_) ?_
                        · go_simp
                          refine (CALL.out _ (Below.refl _ _).drew).mono ?_
                          rintro e w8 ⟨rfl, b8⟩
                          rw [HAE.out]
                          have B8 : Below w7.heap.size w7 w8 := (Below.refl _ _).drew.trans b8
                          have z0 := (B8.frozen (p := ⟨gt, kk * 5, none⟩) HGT2.out).trans (HFZ.out (kk * 5))
                          have x0 := (B8.cell (p := ⟨gt, kk * 5, none⟩) HGT2.out).trans e0
                          have z1 := (B8.frozen (p := ⟨gt, kk * 5 + 1, none⟩) HGT2.out).trans (HFZ.out (kk * 5 + 1))
                          have x1 := (B8.cell (p := ⟨gt, kk * 5 + 1, none⟩) HGT2.out).trans e1
                          have z2 := (B8.frozen (p := ⟨gt, kk * 5 + 2, none⟩) HGT2.out).trans (HFZ.out (kk * 5 + 2))
                          have x2 := (B8.cell (p := ⟨gt, kk * 5 + 2, none⟩) HGT2.out).trans e2
                          have z3 := (B8.frozen (p := ⟨gt, kk * 5 + 3, none⟩) HGT2.out).trans (HFZ.out (kk * 5 + 3))
                          have x3 := (B8.cell (p := ⟨gt, kk * 5 + 3, none⟩) HGT2.out).trans e3
                          have z4 := (B8.frozen (p := ⟨gt, kk * 5 + 4, none⟩) HGT2.out).trans (HFZ.out (kk * 5 + 4))
                          have x4 := (B8.cell (p := ⟨gt, kk * 5 + 4, none⟩) HGT2.out).trans e4
                          clear b8
                          go_wp2_with fail
                          refine hK.out _ _ ?_ (fun hHeld2 => ?_)
                          · (try dsimp only)
                            exact ⟨(B8.cell (p := ⟨bs, os + kk * 2, none⟩) hbw).trans s0, (B8.cell (p := ⟨bs, os + kk * 2 + 1, none⟩) hbw).trans s1, (B8.cell (p := ⟨ba, oa + kk, none⟩) haw).trans d0⟩
                          clear hK K hHeld
                          have hHeld := hHeld2
                          clear hHeld2
                          (try simp only [Act.put, List.setIfInBounds_toArray, List.set_cons_zero, List.set_cons_succ])
                          refine wpAnyH_take (i := 15) (v := ?_) (toArr_get _ 15 _ rfl) (by kernel_rfl) (by kernel_rfl) (by kernel_rfl) (fun _ _ _ h => h) (Or.inl ⟨by rfl, ?_⟩) (by assumption) ?_
                          rotate_left
                          · (intro w hSw; (try dsimp only at hSw); go_simp; (try with_reducible rfl))
                          (try simp only [Act.put, List.setIfInBounds_toArray, List.set_cons_zero, List.set_cons_succ])
                          refine wpAnyH_ready (rs := [16]) (by kernel_rfl) (by simp) ?_
                          refine AllReadyH.cons (toArr_get _ 16 _ rfl) (fun K hK => ?_) ?_
                          · go_simp
                            refine hK.out _ _ ?_ (fun hHeld2 => ?_)
                            · (try dsimp only)
                              (refine ⟨?_, ?_, ?_⟩ <;> simp [go_sem, hHeld.1, hHeld.2.1, hHeld.2.2])
                            clear hK K hHeld
                            have hHeld := hHeld2
                            clear hHeld2
                            (try simp only [Act.put, List.setIfInBounds_toArray, List.set_cons_zero, List.set_cons_succ])
                            refine wpAnyH_done (by kernel_rfl) ?_ _
                            have L8 := (L7.out.below B8).setS (j := 6) (k := kk) (c := c') (st' := (C.st (t + 1)).sv) rfl hkk rfl (fun i _ => by
                              by_cases e : i = kk
                              · rw [e, if_pos rfl]; exact HCC.out.2
                              · rw [if_neg e, C.sv_succ, if_neg (fun h => e (Option.some.inj (HK0.out.symm.trans h)).symm)])
                            obtain ⟨w9, hw9⟩ : ∃ w9, w9 = ((((w8.setCell ⟨gt, kk * 5, none⟩ (.int .i64 (c'.left : Int))).setCell ⟨gt, kk * 5 + 1, none⟩ (.int .i64 (c'.dl : Int))).setCell ⟨gt, kk * 5 + 2, none⟩ (.int .i64 (c'.come : Int))).setCell ⟨gt, kk * 5 + 3, none⟩ (.int .i64 (c'.head : Int))).setCell ⟨gt, kk * 5 + 4, none⟩ (.int .i64 (c'.rest : Int)) := ⟨_, rfl⟩
                            rw [← hw9] at L8 ⊢
                            clear hw9 z0 z1 z2 z3 z4 x0 x1 x2 x3 x4 e0 e1 e2 e3 e4 s0 s1 d0 hHeld
                            have L8t : LS w w9 (tL js als ss.length _ _ (.slice ra t rcap) _ (.slice a6 (t + 1) c6) _ _ iv (C.jl t) t (fun u => optI (C.run u)) (C.fin t) (t + 1) (fun k => if k = t then (kk : Int) else optI (C.K k)) (C.st (t + 1)).sv (C.dn t)) (.slice ra t rcap) _ (.slice a6 (t + 1) c6) _ := L8
                            have e3 := (L8t.stAt (j := 6) (k := kk) rfl hkk).1 3 (by omega)
                            rw [← HCC.out.2] at e3
                            simp only [svF] at e3
                            have o0 := L8t.c.1
                            have o3 := L8t.c.2.2.2.1
                            have of0 := L8t.c.2.2.2.2 0
                            have HL8 := Lib.hid L8t
                            clear L8 L8t
                            have EDO := Lib.hid (show ∀ i, i ≠ kk → C.dn (t + 1) i = C.dn t i from fun i hi => by
                              funext l
                              rw [Cb.dn_succ, if_neg (fun h => hi (Option.some.inj (HK0.out.symm.trans h.1)).symm)])
                            by_cases hfin : c.head < c'.head
                            · have hfin' : (c.head : Int) < c'.head := by omega
                              have EDN := Lib.hid (show ∀ l, l < N → (if l = c.head then ((t : Int) + 1) else C.dn t kk l) = C.dn (t + 1) kk l from fun l _ => by
                                rw [Cb.dn_succ, ← HCC.out.1, ← HCC.out.2]
                                by_cases e : l = c.head
                                · rw [if_pos e, if_pos ⟨HK0.out, e.symm, by rw [e]; exact hfin⟩]
                                · rw [if_neg e, if_neg (fun h => e h.2.1.symm)])
                              have hov : OwnF 26 1 w9 (w.heap.size + 2) (.slice va ss.length vcap) ss.length iv := HL8.out.pl.ow 5 _ rfl
                              obtain ⟨gv, vc', ev⟩ := hov.has (by omega)
                              simp only [Value.slice.injEq] at ev
                              obtain ⟨rfl, -, rfl⟩ := ev
                              have v0 := hov.at.2.2.2.2 kk (by omega)
                              rw [HIV2.out] at v0
                              have hin := HL8.out.inGet hkk
                              rw [HIV2.out, ← HN.out] at hin
                              obtain ⟨gi, ic', ei, hbi, -, -, hfi, hci⟩ := hin.at (by omega)
                              simp only [Value.slice.injEq] at ei
                              obtain ⟨rfl, -, rfl⟩ := ei
                              have i0 := hci c.head hhN
                              have i1 := hfi c.head
                              have ngi : ¬ gi = w.heap.size + 1 := by omega
                              have ngi2 : ¬ w.heap.size + 1 = gi := by omega
                              have hh0 : (0 : Int) ≤ c.head := by omega
                              have hh1 : (c.head : Int) < N := by omega
                              obtain ⟨D, hD⟩ : ∃ D, D = C.dn (t + 1) := ⟨_, rfl⟩
                              have L10 := HL8.out.inSet (d' := D) hkk HIV2.out HN.out hhN (by rw [hD]; exact EDN.out) (by rw [hD]; exact EDO.out)
                              have HDD := Lib.hid hD
                              clear hD
                              have HL10 := Lib.hid L10
                              clear L10 hov hin hci hfi hbi
                              go_wp2_with (at_builtin; refine wpList_append_at _ rfl (.tmp 169) (.tmp 170) 26 rfl (w.heap.size + 2) 3 iI _ 1 8 Try.underlying26 HI.out.1 HI.out.2.1 HI.out.2.2.1 HI.out.2.2.2 rfl (by decide) _ t (vals (fun u => optI (C.run u)) t) rfl ((HL10.out.alloc _).pl.getI (j := 2) rfl) ⟨w9.heap.size, 0, none⟩ 1 1 [.int .i64 (-1)] rfl rfl (by simpa using news1 (w9.setCell ⟨gi, c.head, none⟩ (.int .i64 ((t : Int) + 1))) (-1) 3) (one1 _) (by unfold maxLen; omega) (by omega) (HL10.out.alloc _).sz (by decide) ?_; intro v8 u8 ho8 hg8 hp8 hn8; have L8 := (HL10.out.alloc _).pushI (j := 2) rfl ho8 hg8 hp8; obtain ⟨a8, c8, rfl⟩ := own_shape ho8; have r0 := L8.c.1; have r1 := L8.c.2.2.2.2 0; have L9 := Lib.hid (L8.out0 (.slice a8 (t + 1) c8)); clear ho8 hg8 hp8 hn8 L8)
                              have LF := Lib.hid (show LS w _ (tL js als ss.length _ _ (.slice a8 (t + 1) c8) _ (.slice a6 (t + 1) c6) _ _ iv (C.jl (t + 1)) (t + 1) (fun u => optI (C.run u)) (C.fin (t + 1)) (t + 1) (fun u => optI (C.K u)) (C.st (t + 1)).sv (C.dn (t + 1))) (.slice a8 (t + 1) c8) _ (.slice a6 (t + 1) c6) _ from LS.tick (js := js) (als := als) (lf := C.jl t) (fn := C.fin t) (st := (C.st (t + 1)).sv) (d := D) (rn := (fun k => if k = t then (-1) else optI (C.run k))) (ch := (fun k => if k = t then (kk : Int) else optI (C.K k))) L9.out (fun i _ => by rw [C.jl_succ, HRUN.out]; simp) (fun i hi => by
                                by_cases e : i = t
                                · subst e; rw [if_pos rfl, HRUN.out]; rfl
                                · rw [if_neg e]) (fun i _ => by rw [Cb.fin_succ, HRUN.out]; simp) (fun i hi => by
                                by_cases e : i = t
                                · subst e; rw [if_pos rfl, HK0.out]; rfl
                                · rw [if_neg e]) (fun i _ => rfl) (fun i _ => by rw [HDD.out]))
                              go_roundg (GT - 1)
                              case measure => have := HGT.out; have := HT.out; omega
                              case rel => exact ⟨t + 1, _, _, by have := HGT.out; have := HT.out; omega, by go_num, LF.out⟩
                            · have hfin' : ¬ (c.head : Int) < c'.head := by omega
                              have HFI := Lib.hid hfin
                              clear hfin
                              go_wp2_with (at_builtin; refine wpList_append_at _ rfl (.tmp 169) (.tmp 170) 26 rfl (w.heap.size + 2) 3 iI _ 1 8 Try.underlying26 HI.out.1 HI.out.2.1 HI.out.2.2.1 HI.out.2.2.2 rfl (by decide) _ t (vals (fun u => optI (C.run u)) t) rfl ((HL8.out.alloc _).pl.getI (j := 2) rfl) ⟨w9.heap.size, 0, none⟩ 1 1 [.int .i64 (-1)] rfl rfl (by simpa using news1 (w9) (-1) 3) (one1 _) (by unfold maxLen; omega) (by omega) (HL8.out.alloc _).sz (by decide) ?_; intro v8 u8 ho8 hg8 hp8 hn8; have L8 := (HL8.out.alloc _).pushI (j := 2) rfl ho8 hg8 hp8; obtain ⟨a8, c8, rfl⟩ := own_shape ho8; have r0 := L8.c.1; have r1 := L8.c.2.2.2.2 0; have L9 := Lib.hid (L8.out0 (.slice a8 (t + 1) c8)); clear ho8 hg8 hp8 hn8 L8)
                              have LF := Lib.hid (show LS w _ (tL js als ss.length _ _ (.slice a8 (t + 1) c8) _ (.slice a6 (t + 1) c6) _ _ iv (C.jl (t + 1)) (t + 1) (fun u => optI (C.run u)) (C.fin (t + 1)) (t + 1) (fun u => optI (C.K u)) (C.st (t + 1)).sv (C.dn (t + 1))) (.slice a8 (t + 1) c8) _ (.slice a6 (t + 1) c6) _ from LS.tick (js := js) (als := als) (lf := C.jl t) (fn := C.fin t) (st := (C.st (t + 1)).sv) (d := C.dn t) (rn := (fun k => if k = t then (-1) else optI (C.run k))) (ch := (fun k => if k = t then (kk : Int) else optI (C.K k))) L9.out (fun i _ => by rw [C.jl_succ, HRUN.out]; simp) (fun i hi => by
                                by_cases e : i = t
                                · subst e; rw [if_pos rfl, HRUN.out]; rfl
                                · rw [if_neg e]) (fun i _ => by rw [Cb.fin_succ, HRUN.out]; simp) (fun i hi => by
                                by_cases e : i = t
                                · subst e; rw [if_pos rfl, HK0.out]; rfl
                                · rw [if_neg e]) (fun i _ => rfl) (fun i _ => by
                                by_cases e : i = kk
                                · rw [e]; funext l; rw [Cb.dn_succ, ← HCC.out.1, ← HCC.out.2, if_neg (fun h => HFI.out (by have := h.2.1; have := h.2.2; omega))]
                                · exact EDO.out i e))
                              go_roundg (GT - 1)
                              case measure => have := HGT.out; have := HT.out; omega
                              case rel => exact ⟨t + 1, _, _, by have := HGT.out; have := HT.out; omega, by go_num, LF.out⟩
                          exact AllReadyH.nil
                        exact AllReadyH.nil
                      exact AllReadyH.nil
                  | some jj =>
                    have HJ0 := Lib.hid hJ
                    obtain ⟨hjn, -, hjpos, -, hjlim⟩ := Cb.J_some hJ
                    have hjj : jj < js.length := by have e : C.P.n = js.length := by rw [HCE.out.1]; rfl
                                                    omega
                    have HJP := Lib.hid hjpos
                    have hlim : C.lim t = jdl js jj := by rw [hjlim, HCE.out.1]; rfl
                    rw [hlim] at HKE
                    obtain ⟨gky, kc', ek, -, -, -, -, yk⟩ := (L4.out.pl.getI (j := 1) rfl).at (by omega)
                    simp only [Value.slice.injEq] at ek
                    obtain ⟨rfl, -, rfl⟩ := ek
                    have yk0 := yk jj hjj
                    have hj0 : (0 : Int) ≤ jj := by omega
                    have hj1 : (jj : Int) < js.length := by omega
                    clear hJ hlim hjn hjpos hjlim yk
                    simp only [optI]
                    go_wp2_with fail
                    refine (l5Pick_any _ _ ss.length _ (C.A t) _ (L4.out.pl.rowSt (j := 6) rfl) (by omega)).mono ?_
                    rintro e w5 ⟨rfl, b5⟩
                    have L5 := Lib.hid (L4.out.below b5)
                    rw [HKE.out]
                    have y1 := L5.out.c.2.2.1
                    have y2 := L5.out.c.2.2.2.2 2
                    clear L4 b5
                    clear yk0
                    cases hK : C.K t with
                    | none =>
                      have HK0 := Lib.hid hK
                      have hrun : C.run t = some jj := by unfold Cb.run; rw [hK]; exact HJ0.out
                      have HRUN := Lib.hid hrun
                      obtain ⟨gl, lc', el, hbl, -, -, -, -⟩ := (L5.out.pl.getI (j := 0) rfl).at (by omega)
                      simp only [Value.slice.injEq] at el
                      obtain ⟨rfl, -, rfl⟩ := el
                      obtain ⟨gf, fc', ef, hbf, -, -, -, -⟩ := (L5.out.pl.getI (j := 3) rfl).at (by omega)
                      simp only [Value.slice.injEq] at ef
                      obtain ⟨rfl, -, rfl⟩ := ef
                      obtain ⟨X, hX⟩ : ∃ X, C.jl t jj = X + 1 := ⟨C.jl t jj - 1, by have := HJP.out; omega⟩
                      have HX := Lib.hid hX
                      have hX3 : X ≤ 1000 := by
                        have h1 := (Cb.jl_mono (C := C) jj (Nat.zero_le t))
                        have h2 : C.jl 0 jj = (edfP js).ex jj := by show C.P.ex jj = _; rw [HCE.out.1]
                        have h3 := HFIT.out.2.1 jj hjj
                        omega
                      have nl : ¬ gl = w.heap.size + 1 := by omega
                      have nf : ¬ gf = w.heap.size + 1 := by omega
                      have nlf : ¬ gl = gf := fun e => L5.out.pl.ap 0 3 _ _ (by omega) rfl rfl gl rfl (by rw [e]; rfl)
                      have nfl : ¬ gf = gl := fun e => nlf e.symm
                      have nl2 : ¬ w.heap.size + 1 = gl := by omega
                      have nf2 : ¬ w.heap.size + 1 = gf := by omega
                      clear hK hrun hX
                      simp only [optI]
                      by_cases hX0 : X = 0
                      · subst hX0
                        have EL := Lib.hid (show ∀ i, i < js.length → (if i = jj then (0 : Int) else (C.jl t i : Int)) = (C.jl (t + 1) i : Int) from fun i _ => by
                          rw [C.jl_succ, HRUN.out]
                          by_cases e : i = jj
                          · subst e; rw [if_pos rfl, if_pos rfl, HX.out]; omega
                          · rw [if_neg e, if_neg (fun h => e (Option.some.inj h).symm)])
                        have EF := Lib.hid (show ∀ i, i < js.length → (if i = jj then ((t : Int) + 1) else C.fin t i) = C.fin (t + 1) i from fun i _ => by
                          rw [Cb.fin_succ, HRUN.out]
                          by_cases e : i = jj
                          · subst e; rw [if_pos rfl, if_pos ⟨rfl, by rw [C.jl_succ, HRUN.out, if_pos rfl, HX.out]⟩]
                          · rw [if_neg e, if_neg (fun h => e (Option.some.inj h.1).symm)])
                        go_wp2_with (first
                          | (at_builtin; refine wpList_append_at _ rfl (.tmp 123) (.tmp 125) 26 rfl (w.heap.size + 2) 3 iI _ 1 8 Try.underlying26 HI.out.1 HI.out.2.1 HI.out.2.2.1 HI.out.2.2.2 rfl (by decide) _ t (vals (fun u => optI (C.K u)) t) rfl ((L5.out.alloc _).pl.getI (j := 4) rfl) ⟨w5.heap.size, 0, none⟩ 1 1 [.int .i64 (-1)] rfl rfl (news1 _ _ _) (one1 _) (by unfold maxLen; omega) (by omega) (L5.out.alloc _).sz (by decide) ?_; intro v6 u6 ho6 hg6 hp6 hn6; have L6 := (L5.out.alloc _).pushI (j := 4) rfl ho6 hg6 hp6; obtain ⟨a6, c6, rfl⟩ := own_shape ho6; have q0 := L6.c.1; have q1 := L6.c.2.2.2.2 2; have q2 := L6.c.2.2.2.2 0; have q3 := L6.c.2.2.1; have q4 := L6.c.2.2.2.1; have L7 := Lib.hid (L6.out2 (.slice a6 (t + 1) c6)); clear ho6 hg6 hp6 hn6 L6)
                          | (at_builtin; refine wpList_append_at _ rfl (.tmp 176) (.tmp 178) 26 rfl (w.heap.size + 2) 3 iI _ 1 8 Try.underlying26 HI.out.1 HI.out.2.1 HI.out.2.2.1 HI.out.2.2.2 rfl (by decide) _ t (vals (fun u => optI (C.run u)) t) rfl ((L7.out.alloc _).pl.getI (j := 2) rfl) ⟨u6.heap.size, 0, none⟩ 1 1 [.int .i64 (jj : Int)] rfl rfl (by simpa using news1 (u6.setCell ⟨w.heap.size + 1, 2, none⟩ (.slice a6 (t + 1) c6)) (jj : Int) 3) (one1 _) (by unfold maxLen; omega) (by omega) (L7.out.alloc _).sz (by decide) ?_; intro v8 u8 ho8 hg8 hp8 hn8; have L8 := (L7.out.alloc _).pushI (j := 2) rfl ho8 hg8 hp8; obtain ⟨a8, c8, rfl⟩ := own_shape ho8; have r0 := L8.c.1; have r1 := L8.c.2.2.2.2 0; have k0 := (OwnI.cellAt (L8.pl.getI (j := 0) rfl) hjj).1; have k1 := (OwnI.cellAt (L8.pl.getI (j := 0) rfl) hjj).2.1; have k3 := (OwnI.cellAt (L8.pl.getI (j := 3) rfl) hjj).2.1; have k4 := (OwnI.cellAt (L8.pl.getI (j := 3) rfl) hjj).1; simp only [HX.out] at k0; have r2 := L8.c.2.1; have L9 := Lib.hid (L8.out0 (.slice a8 (t + 1) c8)); clear ho8 hg8 hp8 hn8 L8))
                        have LF := Lib.hid (show LS w _ (tL js als ss.length _ _ (.slice a8 (t + 1) c8) _ (.slice a6 (t + 1) c6) _ _ iv (C.jl (t + 1)) (t + 1) (fun u => optI (C.run u)) (C.fin (t + 1)) (t + 1) (fun u => optI (C.K u)) (C.st (t + 1)).sv (C.dn (t + 1))) (.slice a8 (t + 1) c8) _ (.slice a6 (t + 1) c6) (.slice va ss.length vcap) from LS.tick (js := js) (als := als) (lf := C.jl (t + 1)) (fn := C.fin (t + 1)) (st := C.A t) (d := C.dn t) (rn := fun k => if k = t then (jj : Int) else optI (C.run k)) (ch := fun k => if k = t then -1 else optI (C.K k)) ((L9.out.setI (j := 0) (m := jj) (f' := fun i => (C.jl (t + 1) i : Int)) rfl hjj EL.out).setI (j := 3) (m := jj) (f' := C.fin (t + 1)) rfl hjj EF.out) (fun i _ => rfl) (fun i hi => by
                            by_cases e : i = t
                            · subst e; rw [if_pos rfl, HRUN.out]; rfl
                            · rw [if_neg e]) (fun i _ => rfl) (fun i hi => by
                            by_cases e : i = t
                            · subst e; rw [if_pos rfl, HK0.out]; rfl
                            · rw [if_neg e]) (fun i _ => by rw [C.sv_succ, HK0.out]; simp) (fun i _ => by funext l; rw [Cb.dn_succ, HK0.out]; simp))
                        go_roundg (GT - 1)
                        case measure => have := HGT.out; have := HT.out; omega
                        case rel => exact ⟨t + 1, _, _, by have := HGT.out; have := HT.out; omega, by go_num, LF.out⟩
                      · have hX1 : ((X : Int) == 0) = false := beq_eq_false_iff_ne.2 (by omega)
                        have hX2 : (X == 0) = false := beq_eq_false_iff_ne.2 hX0
                        have EL := Lib.hid (show ∀ i, i < js.length → (if i = jj then (X : Int) else (C.jl t i : Int)) = (C.jl (t + 1) i : Int) from fun i _ => by
                          rw [C.jl_succ, HRUN.out]
                          by_cases e : i = jj
                          · subst e; rw [if_pos rfl, if_pos rfl, HX.out]; omega
                          · rw [if_neg e, if_neg (fun h => e (Option.some.inj h).symm)])
                        have EF := Lib.hid (show ∀ i, i < js.length → C.fin t i = C.fin (t + 1) i from fun i _ => by
                          rw [Cb.fin_succ, HRUN.out]
                          by_cases e : i = jj
                          · subst e; rw [if_neg (fun h => hX0 (by have := h.2; rw [C.jl_succ, HRUN.out, if_pos rfl, HX.out] at this; omega))]
                          · rw [if_neg (fun h => e (Option.some.inj h.1).symm)])
                        have HX0 := Lib.hid hX0
                        clear hX0
                        go_wp2_with (first
                          | (at_builtin; refine wpList_append_at _ rfl (.tmp 123) (.tmp 125) 26 rfl (w.heap.size + 2) 3 iI _ 1 8 Try.underlying26 HI.out.1 HI.out.2.1 HI.out.2.2.1 HI.out.2.2.2 rfl (by decide) _ t (vals (fun u => optI (C.K u)) t) rfl ((L5.out.alloc _).pl.getI (j := 4) rfl) ⟨w5.heap.size, 0, none⟩ 1 1 [.int .i64 (-1)] rfl rfl (news1 _ _ _) (one1 _) (by unfold maxLen; omega) (by omega) (L5.out.alloc _).sz (by decide) ?_; intro v6 u6 ho6 hg6 hp6 hn6; have L6 := (L5.out.alloc _).pushI (j := 4) rfl ho6 hg6 hp6; obtain ⟨a6, c6, rfl⟩ := own_shape ho6; have q0 := L6.c.1; have q1 := L6.c.2.2.2.2 2; have q2 := L6.c.2.2.2.2 0; have q3 := L6.c.2.2.1; have q4 := L6.c.2.2.2.1; have L7 := Lib.hid (L6.out2 (.slice a6 (t + 1) c6)); clear ho6 hg6 hp6 hn6 L6)
                          | (at_builtin; refine wpList_append_at _ rfl (.tmp 176) (.tmp 178) 26 rfl (w.heap.size + 2) 3 iI _ 1 8 Try.underlying26 HI.out.1 HI.out.2.1 HI.out.2.2.1 HI.out.2.2.2 rfl (by decide) _ t (vals (fun u => optI (C.run u)) t) rfl ((L7.out.alloc _).pl.getI (j := 2) rfl) ⟨u6.heap.size, 0, none⟩ 1 1 [.int .i64 (jj : Int)] rfl rfl (by simpa using news1 (u6.setCell ⟨w.heap.size + 1, 2, none⟩ (.slice a6 (t + 1) c6)) (jj : Int) 3) (one1 _) (by unfold maxLen; omega) (by omega) (L7.out.alloc _).sz (by decide) ?_; intro v8 u8 ho8 hg8 hp8 hn8; have L8 := (L7.out.alloc _).pushI (j := 2) rfl ho8 hg8 hp8; obtain ⟨a8, c8, rfl⟩ := own_shape ho8; have r0 := L8.c.1; have r1 := L8.c.2.2.2.2 0; have k0 := (OwnI.cellAt (L8.pl.getI (j := 0) rfl) hjj).1; have k1 := (OwnI.cellAt (L8.pl.getI (j := 0) rfl) hjj).2.1; have k3 := (OwnI.cellAt (L8.pl.getI (j := 3) rfl) hjj).2.1; have k4 := (OwnI.cellAt (L8.pl.getI (j := 3) rfl) hjj).1; simp only [HX.out] at k0; have r2 := L8.c.2.1; have L9 := Lib.hid (L8.out0 (.slice a8 (t + 1) c8)); clear ho8 hg8 hp8 hn8 L8))
                        have LF := Lib.hid (show LS w _ (tL js als ss.length _ _ (.slice a8 (t + 1) c8) _ (.slice a6 (t + 1) c6) _ _ iv (C.jl (t + 1)) (t + 1) (fun u => optI (C.run u)) (C.fin (t + 1)) (t + 1) (fun u => optI (C.K u)) (C.st (t + 1)).sv (C.dn (t + 1))) (.slice a8 (t + 1) c8) _ (.slice a6 (t + 1) c6) (.slice va ss.length vcap) from LS.tick (js := js) (als := als) (lf := C.jl (t + 1)) (fn := C.fin (t + 1)) (st := C.A t) (d := C.dn t) (rn := fun k => if k = t then (jj : Int) else optI (C.run k)) (ch := fun k => if k = t then -1 else optI (C.K k)) ((L9.out.setI (j := 0) (m := jj) (f' := fun i => (C.jl (t + 1) i : Int)) rfl hjj EL.out).congrI (j := 3) (g := C.fin (t + 1)) rfl EF.out) (fun i _ => rfl) (fun i hi => by
                            by_cases e : i = t
                            · subst e; rw [if_pos rfl, HRUN.out]; rfl
                            · rw [if_neg e]) (fun i _ => rfl) (fun i hi => by
                            by_cases e : i = t
                            · subst e; rw [if_pos rfl, HK0.out]; rfl
                            · rw [if_neg e]) (fun i _ => by rw [C.sv_succ, HK0.out]; simp) (fun i _ => by funext l; rw [Cb.dn_succ, HK0.out]; simp))
                        go_roundg (GT - 1)
                        case measure => have := HGT.out; have := HT.out; omega
                        case rel => exact ⟨t + 1, _, _, by have := HGT.out; have := HT.out; omega, by go_num, LF.out⟩
                    | some kk =>
                      have HK0 := Lib.hid hK
                      have hrun : C.run t = none := by unfold Cb.run; rw [hK]
                      have HRUN := Lib.hid hrun
                      obtain ⟨hkn, hpend, -, -⟩ := Cb.K_some hK
                      have hkk : kk < ss.length := by rw [HCE.out.2.1] at hkn; exact hkn
                      have hos : OwnF 149 5 w5 (w.heap.size + 2) (.slice ta ss.length tcap) ss.length (F5 (C.A t)) := L5.out.pl.ow 6 _ rfl
                      obtain ⟨gt, tc, et⟩ := hos.has (by omega)
                      simp only [Value.slice.injEq] at et
                      obtain ⟨rfl, -, rfl⟩ := et
                      have hgb := (hos.lt gt rfl).1
                      have ngB : ¬ gt = w.heap.size + 1 := by omega
                      have ngB2 : ¬ w.heap.size + 1 = gt := by omega
                      have hk0 : (0 : Int) ≤ kk := by omega
                      have hk1 : (kk : Int) < ss.length := by omega
                      have hka : (kk : Int) < als.length := by have := HLEN.out; omega
                      have hal := HALV.out kk (by have := HLEN.out; omega)
                      have hsq := ss_pos HSSV.out hkk
                      have hsv := (sv_le HCO.out hkn (by rw [HCE.out.2.2.2.2.1]; exact hal) (by rw [HCE.out.2.2.1]; omega) (by rw [HCE.out.2.2.2.1]; omega) t htt).2
                      have ok := Cb.A_ok HCO.out hkn t
                      rw [HCE.out.2.2.2.2.1] at ok
                      obtain ⟨c, hc⟩ : ∃ c, c = C.A t kk := ⟨_, rfl⟩
                      obtain ⟨c', hc'⟩ : ∃ c', c' = (C.st (t + 1)).sv kk := ⟨_, rfl⟩
                      have hse : c.serve (aT ss kk) (aX ss kk) (als.getD kk []) = c' := by rw [hc, hc', C.sv_succ, if_pos hK, HCE.out.2.2.1, HCE.out.2.2.2.1, HCE.out.2.2.2.2.1]
                      rw [← hc] at hpend hsv ok
                      have HCC := Lib.hid (And.intro hc hc')
                      obtain ⟨bs, os, es, hbs, s0', s1'⟩ := HS.out kk hkk
                      have hq : (ab ss kk).1 = (aT ss kk : Nat) ∧ (ab ss kk).2 = (aX ss kk : Nat) := by have := (ssB_iff.1 HSSV.out).2 kk hkk; rw [ab_T, ab_X]; omega
                      rw [hq.1] at s0'
                      rw [hq.2] at s1'
                      obtain ⟨ba, oa, ad, dcap, ea, hba, d0', -, hrow0⟩ := HA.out kk (by have := HLEN.out; omega)
                      have nb1 : ¬ bs = gt := by omega
                      have na1 : ¬ ba = gt := by omega
                      have hsh := own_shape (L5.out.pl.getI (tL_get (k := kk) hkk))
                      have hhN : c.head < (als.getD kk []).length := by have := ok.cl; omega
                      obtain ⟨Q, hQ⟩ : ∃ Q, Q = aT ss kk := ⟨_, rfl⟩
                      obtain ⟨P, hP⟩ : ∃ P, P = aX ss kk := ⟨_, rfl⟩
                      obtain ⟨N, hN⟩ : ∃ N, N = (als.getD kk []).length := ⟨_, rfl⟩
                      have hN20 : N ≤ 20 := by rw [hN]; exact (alB_iff.1 hal).1
                      have CALL0 := Lib.hid (fun W (hR : Row2 W ad (als.getD kk [])) => l5Serve_any ad dcap c (aT ss kk) (aX ss kk) (als.getD kk []) W hR hal hsv ok.cl ok.l1 (ok.r1 hpend) hpend (by omega))
                      rw [← hQ] at s0' CALL0 hse
                      rw [← hP] at s1' CALL0 hse
                      rw [← hN] at d0' CALL0 hhN
                      unfold svV at CALL0
                      have HAE := Lib.hid hse
                      have HROW := Lib.hid hrow0
                      have HSD := Lib.hid (And.intro s0' (And.intro s1' d0'))
                      have HN := Lib.hid hN
                      have hh20 : c.head ≤ 20 := hsv.2.2.2.1
                      have HBND := Lib.hid (And.intro hpend hsv)
                      obtain ⟨ia, ic, hiv⟩ := hsh
                      rw [← hN] at hiv
                      have HIV2 := Lib.hid hiv
                      subst es ea
                      have hbz : bs < w.heap.size := hbs
                      have haz : ba < w.heap.size := hba
                      clear hK hrun hkn hos hal hsq hc hc' hse s0' s1' d0' hq hrow0 hQ hP hN hiv ok hpend hsv hbs hba
                      simp only [optI]
                      go_wp2_with (at_builtin; refine wpList_append_at _ rfl (.tmp 123) (.tmp 125) 26 rfl (w.heap.size + 2) 3 iI _ 1 8 Try.underlying26 HI.out.1 HI.out.2.1 HI.out.2.2.1 HI.out.2.2.2 rfl (by decide) _ t (vals (fun u => optI (C.K u)) t) rfl ((L5.out.alloc _).pl.getI (j := 4) rfl) ⟨w5.heap.size, 0, none⟩ 1 1 [.int .i64 (kk : Int)] rfl rfl (news1 _ _ _) (one1 _) (by unfold maxLen; omega) (by omega) (L5.out.alloc _).sz (by decide) ?_; intro v6 u6 ho6 hg6 hp6 hn6; have L6 := (L5.out.alloc _).pushI (j := 4) rfl ho6 hg6 hp6; obtain ⟨a6, c6, rfl⟩ := own_shape ho6; have q0 := L6.c.1; have q1 := L6.c.2.2.2.2 2; have q2 := L6.c.2.2.2.2 0; have q3 := L6.c.2.2.1; have q4 := L6.c.2.2.2.1; have h34 := (L6.stAt (j := 6) rfl hkk).1 3 (by omega); rw [← HCC.out.1] at h34; simp only [svF] at h34; have L7 := Lib.hid (L6.out2 (.slice a6 (t + 1) c6)); clear ho6 hg6 hp6 hn6 L6)
                      obtain ⟨w7, hw7⟩ : ∃ w7, w7 = u6.setCell ⟨w.heap.size + 1, 2, none⟩ (.slice a6 (t + 1) c6) := ⟨_, rfl⟩
                      rw [← hw7] at L7 ⊢
                      clear hw7 q0 q1 q2 q3 q4 h34 y1 y2
                      have hst := L7.out.stAt (j := 6) (k := kk) rfl hkk
                      rw [← HCC.out.1] at hst
                      have e0 := hst.1 0 (by omega)
                      have e1 := hst.1 1 (by omega)
                      have e2 := hst.1 2 (by omega)
                      have e3 := hst.1 3 (by omega)
                      have e4 := hst.1 4 (by omega)
                      simp only [svF, Nat.add_zero] at e0 e1 e2 e3 e4
                      have HFZ := Lib.hid hst.2.1
                      have HGT2 := Lib.hid hst.2.2.1
                      have s0 := (L7.out.be.cell (p := ⟨bs, os + kk * 2, none⟩) hbz).trans HSD.out.1
                      have s1 := (L7.out.be.cell (p := ⟨bs, os + kk * 2 + 1, none⟩) hbz).trans HSD.out.2.1
                      have d0 := (L7.out.be.cell (p := ⟨ba, oa + kk, none⟩) haz).trans HSD.out.2.2
                      have hbw : bs < w7.heap.size := by have := L7.out.be.size; omega
                      have haw : ba < w7.heap.size := by have := L7.out.be.size; omega
                      have CALL := Lib.hid (fun W (hB : Below w7.heap.size w7 W) => CALL0.out W ((HROW.out.below L7.out.be).below hB))
                      clear hst CALL0
                      refine wp_region_held_drew (S := fun w' => w'.cell? ⟨bs, os + kk * 2, none⟩ = some (.int .i64 (Q : Int)) ∧ w'.cell? ⟨bs, os + kk * 2 + 1, none⟩ = some (.int .i64 (P : Int)) ∧ w'.cell? ⟨ba, oa + kk, none⟩ = some (.slice ad N dcap)) (by kernel_rfl) ?_ (fun hHeld => ?_)
                      · (try dsimp only)
                        exact ⟨s0, s1, d0⟩
                      refine wpAnyH_take (i := 0) (v := ?_) (toArr_get _ 0 _ rfl) (by kernel_rfl) (by kernel_rfl) (by kernel_rfl) (fun _ _ _ h => h) (Or.inl ⟨by rfl, ?_⟩) (by assumption) ?_
                      rotate_left
                      · (intro w hSw; (try dsimp only at hSw); go_simp; (try with_reducible rfl))
                      (try simp only [Act.put, List.setIfInBounds_toArray, List.set_cons_zero, List.set_cons_succ])
                      refine wpAnyH_take (i := 1) (v := ?_) (toArr_get _ 1 _ rfl) (by kernel_rfl) (by kernel_rfl) (by kernel_rfl) (fun _ _ _ h => h) (Or.inl ⟨by rfl, ?_⟩) (by assumption) ?_
                      rotate_left
                      · (intro w hSw; (try dsimp only at hSw); go_simp; (try with_reducible rfl))
                      (try simp only [Act.put, List.setIfInBounds_toArray, List.set_cons_zero, List.set_cons_succ])
                      refine wpAnyH_take (i := 2) (v := ?_) (toArr_get _ 2 _ rfl) (by kernel_rfl) (by kernel_rfl) (by kernel_rfl) (fun _ _ _ h => h) (Or.inl ⟨by rfl, ?_⟩) (by assumption) ?_
                      rotate_left
                      · (intro w hSw; (try dsimp only at hSw); go_simp; (try with_reducible rfl))
                      (try simp only [Act.put, List.setIfInBounds_toArray, List.set_cons_zero, List.set_cons_succ])
                      refine wpAnyH_take (i := 3) (v := ?_) (toArr_get _ 3 _ rfl) (by kernel_rfl) (by kernel_rfl) (by kernel_rfl) (fun _ _ _ h => h) (Or.inl ⟨by rfl, ?_⟩) (by assumption) ?_
                      rotate_left
                      · (intro w hSw; (try dsimp only at hSw); go_simp; (try with_reducible rfl))
                      (try simp only [Act.put, List.setIfInBounds_toArray, List.set_cons_zero, List.set_cons_succ])
                      refine wpAnyH_take (i := 4) (v := ?_) (toArr_get _ 4 _ rfl) (by kernel_rfl) (by kernel_rfl) (by kernel_rfl) (fun _ _ _ h => h) (Or.inl ⟨by rfl, ?_⟩) (by assumption) ?_
                      rotate_left
                      · (intro w hSw; (try dsimp only at hSw); go_simp; (try with_reducible rfl))
                      (try simp only [Act.put, List.setIfInBounds_toArray, List.set_cons_zero, List.set_cons_succ])
                      refine wpAnyH_take (i := 6) (v := ?_) (toArr_get _ 6 _ rfl) (by kernel_rfl) (by kernel_rfl) (by kernel_rfl) (fun _ _ _ h => h) (Or.inl ⟨by rfl, ?_⟩) (by assumption) ?_
                      rotate_left
                      · (intro w hSw; (try dsimp only at hSw); go_simp; (try with_reducible rfl))
                      (try simp only [Act.put, List.setIfInBounds_toArray, List.set_cons_zero, List.set_cons_succ])
                      refine wpAnyH_take (i := 7) (v := ?_) (toArr_get _ 7 _ rfl) (by kernel_rfl) (by kernel_rfl) (by kernel_rfl) (fun _ _ _ h => h) (Or.inl ⟨by rfl, ?_⟩) (by assumption) ?_
                      rotate_left
                      · (intro w hSw; (try dsimp only at hSw); go_simp; (try with_reducible rfl))
                      (try simp only [Act.put, List.setIfInBounds_toArray, List.set_cons_zero, List.set_cons_succ])
                      refine wpAnyH_take (i := 8) (v := ?_) (toArr_get _ 8 _ rfl) (by kernel_rfl) (by kernel_rfl) (by kernel_rfl) (fun _ _ _ h => h) (Or.inl ⟨by rfl, ?_⟩) (by assumption) ?_
                      rotate_left
                      · (intro w hSw; (try dsimp only at hSw); go_simp; (try with_reducible rfl))
                      (try simp only [Act.put, List.setIfInBounds_toArray, List.set_cons_zero, List.set_cons_succ])
                      refine wpAnyH_take (i := 9) (v := ?_) (toArr_get _ 9 _ rfl) (by kernel_rfl) (by kernel_rfl) (by kernel_rfl) (fun _ _ _ h => h) (Or.inl ⟨by rfl, ?_⟩) (by assumption) ?_
                      rotate_left
                      · (intro w hSw; (try dsimp only at hSw); go_simp; (try with_reducible rfl))
                      (try simp only [Act.put, List.setIfInBounds_toArray, List.set_cons_zero, List.set_cons_succ])
                      refine wpAnyH_take (i := 10) (v := ?_) (toArr_get _ 10 _ rfl) (by kernel_rfl) (by kernel_rfl) (by kernel_rfl) (fun _ _ _ h => h) (Or.inl ⟨by rfl, ?_⟩) (by assumption) ?_
                      rotate_left
                      · (intro w hSw; (try dsimp only at hSw); go_simp; (try with_reducible rfl))
                      (try simp only [Act.put, List.setIfInBounds_toArray, List.set_cons_zero, List.set_cons_succ])
                      refine wpAnyH_take (i := 11) (v := ?_) (toArr_get _ 11 _ rfl) (by kernel_rfl) (by kernel_rfl) (by kernel_rfl) (fun _ _ _ h => h) (Or.inl ⟨by rfl, ?_⟩) (by assumption) ?_
                      rotate_left
                      · (intro w hSw; (try dsimp only at hSw); go_simp; (try with_reducible rfl))
                      (try simp only [Act.put, List.setIfInBounds_toArray, List.set_cons_zero, List.set_cons_succ])
                      refine wpAnyH_take (i := 12) (v := ?_) (toArr_get _ 12 _ rfl) (by kernel_rfl) (by kernel_rfl) (by kernel_rfl) (fun _ _ _ h => h) (Or.inl ⟨by rfl, ?_⟩) (by assumption) ?_
                      rotate_left
                      · (intro w hSw; (try dsimp only at hSw); go_simp; (try with_reducible rfl))
                      (try simp only [Act.put, List.setIfInBounds_toArray, List.set_cons_zero, List.set_cons_succ])
                      refine wpAnyH_take (i := 13) (v := ?_) (toArr_get _ 13 _ rfl) (by kernel_rfl) (by kernel_rfl) (by kernel_rfl) (fun _ _ _ h => h) (Or.inl ⟨by rfl, ?_⟩) (by assumption) ?_
                      rotate_left
                      · (intro w hSw; (try dsimp only at hSw); go_simp; (try with_reducible rfl))
                      (try simp only [Act.put, List.setIfInBounds_toArray, List.set_cons_zero, List.set_cons_succ])
                      refine wpAnyH_ready (rs := [5]) (by kernel_rfl) (by simp) ?_
                      refine AllReadyH.cons (toArr_get _ 5 _ rfl) (fun K hK => ?_) ?_
                      · go_simp
                        refine hK.out _ _ ?_ (fun hHeld2 => ?_)
                        · (try dsimp only)
                          exact ⟨s0, s1, d0⟩
                        clear hK K hHeld
                        have hHeld := hHeld2
                        clear hHeld2
                        (try simp only [Act.put, List.setIfInBounds_toArray, List.set_cons_zero, List.set_cons_succ])
                        refine wpAnyH_ready (rs := [14]) (by kernel_rfl) (by simp) ?_
                        refine AllReadyH.cons (toArr_get _ 14 _ rfl) (fun K hK => ?_) ?_
                        · go_simp
                          refine (CALL.out _ (Below.refl _ _).drew).mono ?_
                          rintro e w8 ⟨rfl, b8⟩
                          rw [HAE.out]
                          have B8 : Below w7.heap.size w7 w8 := (Below.refl _ _).drew.trans b8
                          have z0 := (B8.frozen (p := ⟨gt, kk * 5, none⟩) HGT2.out).trans (HFZ.out (kk * 5))
                          have x0 := (B8.cell (p := ⟨gt, kk * 5, none⟩) HGT2.out).trans e0
                          have z1 := (B8.frozen (p := ⟨gt, kk * 5 + 1, none⟩) HGT2.out).trans (HFZ.out (kk * 5 + 1))
                          have x1 := (B8.cell (p := ⟨gt, kk * 5 + 1, none⟩) HGT2.out).trans e1
                          have z2 := (B8.frozen (p := ⟨gt, kk * 5 + 2, none⟩) HGT2.out).trans (HFZ.out (kk * 5 + 2))
                          have x2 := (B8.cell (p := ⟨gt, kk * 5 + 2, none⟩) HGT2.out).trans e2
                          have z3 := (B8.frozen (p := ⟨gt, kk * 5 + 3, none⟩) HGT2.out).trans (HFZ.out (kk * 5 + 3))
                          have x3 := (B8.cell (p := ⟨gt, kk * 5 + 3, none⟩) HGT2.out).trans e3
                          have z4 := (B8.frozen (p := ⟨gt, kk * 5 + 4, none⟩) HGT2.out).trans (HFZ.out (kk * 5 + 4))
                          have x4 := (B8.cell (p := ⟨gt, kk * 5 + 4, none⟩) HGT2.out).trans e4
                          clear b8
                          go_wp2_with fail
                          refine hK.out _ _ ?_ (fun hHeld2 => ?_)
                          · (try dsimp only)
                            exact ⟨(B8.cell (p := ⟨bs, os + kk * 2, none⟩) hbw).trans s0, (B8.cell (p := ⟨bs, os + kk * 2 + 1, none⟩) hbw).trans s1, (B8.cell (p := ⟨ba, oa + kk, none⟩) haw).trans d0⟩
                          clear hK K hHeld
                          have hHeld := hHeld2
                          clear hHeld2
                          (try simp only [Act.put, List.setIfInBounds_toArray, List.set_cons_zero, List.set_cons_succ])
                          refine wpAnyH_take (i := 15) (v := ?_) (toArr_get _ 15 _ rfl) (by kernel_rfl) (by kernel_rfl) (by kernel_rfl) (fun _ _ _ h => h) (Or.inl ⟨by rfl, ?_⟩) (by assumption) ?_
                          rotate_left
                          · (intro w hSw; (try dsimp only at hSw); go_simp; (try with_reducible rfl))
                          (try simp only [Act.put, List.setIfInBounds_toArray, List.set_cons_zero, List.set_cons_succ])
                          refine wpAnyH_ready (rs := [16]) (by kernel_rfl) (by simp) ?_
                          refine AllReadyH.cons (toArr_get _ 16 _ rfl) (fun K hK => ?_) ?_
                          · go_simp
                            refine hK.out _ _ ?_ (fun hHeld2 => ?_)
                            · (try dsimp only)
                              (refine ⟨?_, ?_, ?_⟩ <;> simp [go_sem, hHeld.1, hHeld.2.1, hHeld.2.2])
                            clear hK K hHeld
                            have hHeld := hHeld2
                            clear hHeld2
                            (try simp only [Act.put, List.setIfInBounds_toArray, List.set_cons_zero, List.set_cons_succ])
                            refine wpAnyH_done (by kernel_rfl) ?_ _
                            have L8 := (L7.out.below B8).setS (j := 6) (k := kk) (c := c') (st' := (C.st (t + 1)).sv) rfl hkk rfl (fun i _ => by
                              by_cases e : i = kk
                              · rw [e, if_pos rfl]; exact HCC.out.2
                              · rw [if_neg e, C.sv_succ, if_neg (fun h => e (Option.some.inj (HK0.out.symm.trans h)).symm)])
                            obtain ⟨w9, hw9⟩ : ∃ w9, w9 = ((((w8.setCell ⟨gt, kk * 5, none⟩ (.int .i64 (c'.left : Int))).setCell ⟨gt, kk * 5 + 1, none⟩ (.int .i64 (c'.dl : Int))).setCell ⟨gt, kk * 5 + 2, none⟩ (.int .i64 (c'.come : Int))).setCell ⟨gt, kk * 5 + 3, none⟩ (.int .i64 (c'.head : Int))).setCell ⟨gt, kk * 5 + 4, none⟩ (.int .i64 (c'.rest : Int)) := ⟨_, rfl⟩
                            rw [← hw9] at L8 ⊢
                            clear hw9 z0 z1 z2 z3 z4 x0 x1 x2 x3 x4 e0 e1 e2 e3 e4 s0 s1 d0 hHeld
                            have L8t : LS w w9 (tL js als ss.length _ _ (.slice ra t rcap) _ (.slice a6 (t + 1) c6) _ _ iv (C.jl t) t (fun u => optI (C.run u)) (C.fin t) (t + 1) (fun k => if k = t then (kk : Int) else optI (C.K k)) (C.st (t + 1)).sv (C.dn t)) (.slice ra t rcap) _ (.slice a6 (t + 1) c6) _ := L8
                            have e3 := (L8t.stAt (j := 6) (k := kk) rfl hkk).1 3 (by omega)
                            rw [← HCC.out.2] at e3
                            simp only [svF] at e3
                            have o0 := L8t.c.1
                            have o3 := L8t.c.2.2.2.1
                            have of0 := L8t.c.2.2.2.2 0
                            have HL8 := Lib.hid L8t
                            clear L8 L8t
                            have EDO := Lib.hid (show ∀ i, i ≠ kk → C.dn (t + 1) i = C.dn t i from fun i hi => by
                              funext l
                              rw [Cb.dn_succ, if_neg (fun h => hi (Option.some.inj (HK0.out.symm.trans h.1)).symm)])
                            by_cases hfin : c.head < c'.head
                            · have hfin' : (c.head : Int) < c'.head := by omega
                              have EDN := Lib.hid (show ∀ l, l < N → (if l = c.head then ((t : Int) + 1) else C.dn t kk l) = C.dn (t + 1) kk l from fun l _ => by
                                rw [Cb.dn_succ, ← HCC.out.1, ← HCC.out.2]
                                by_cases e : l = c.head
                                · rw [if_pos e, if_pos ⟨HK0.out, e.symm, by rw [e]; exact hfin⟩]
                                · rw [if_neg e, if_neg (fun h => e h.2.1.symm)])
                              have hov : OwnF 26 1 w9 (w.heap.size + 2) (.slice va ss.length vcap) ss.length iv := HL8.out.pl.ow 5 _ rfl
                              obtain ⟨gv, vc', ev⟩ := hov.has (by omega)
                              simp only [Value.slice.injEq] at ev
                              obtain ⟨rfl, -, rfl⟩ := ev
                              have v0 := hov.at.2.2.2.2 kk (by omega)
                              rw [HIV2.out] at v0
                              have hin := HL8.out.inGet hkk
                              rw [HIV2.out, ← HN.out] at hin
                              obtain ⟨gi, ic', ei, hbi, -, -, hfi, hci⟩ := hin.at (by omega)
                              simp only [Value.slice.injEq] at ei
                              obtain ⟨rfl, -, rfl⟩ := ei
                              have i0 := hci c.head hhN
                              have i1 := hfi c.head
                              have ngi : ¬ gi = w.heap.size + 1 := by omega
                              have ngi2 : ¬ w.heap.size + 1 = gi := by omega
                              have hh0 : (0 : Int) ≤ c.head := by omega
                              have hh1 : (c.head : Int) < N := by omega
                              obtain ⟨D, hD⟩ : ∃ D, D = C.dn (t + 1) := ⟨_, rfl⟩
                              have L10 := HL8.out.inSet (d' := D) hkk HIV2.out HN.out hhN (by rw [hD]; exact EDN.out) (by rw [hD]; exact EDO.out)
                              have HDD := Lib.hid hD
                              clear hD
                              have HL10 := Lib.hid L10
                              clear L10 hov hin hci hfi hbi
                              go_wp2_with (at_builtin; refine wpList_append_at _ rfl (.tmp 169) (.tmp 170) 26 rfl (w.heap.size + 2) 3 iI _ 1 8 Try.underlying26 HI.out.1 HI.out.2.1 HI.out.2.2.1 HI.out.2.2.2 rfl (by decide) _ t (vals (fun u => optI (C.run u)) t) rfl ((HL10.out.alloc _).pl.getI (j := 2) rfl) ⟨w9.heap.size, 0, none⟩ 1 1 [.int .i64 (-1)] rfl rfl (by simpa using news1 (w9.setCell ⟨gi, c.head, none⟩ (.int .i64 ((t : Int) + 1))) (-1) 3) (one1 _) (by unfold maxLen; omega) (by omega) (HL10.out.alloc _).sz (by decide) ?_; intro v8 u8 ho8 hg8 hp8 hn8; have L8 := (HL10.out.alloc _).pushI (j := 2) rfl ho8 hg8 hp8; obtain ⟨a8, c8, rfl⟩ := own_shape ho8; have r0 := L8.c.1; have r1 := L8.c.2.2.2.2 0; have L9 := Lib.hid (L8.out0 (.slice a8 (t + 1) c8)); clear ho8 hg8 hp8 hn8 L8)
                              have LF := Lib.hid (show LS w _ (tL js als ss.length _ _ (.slice a8 (t + 1) c8) _ (.slice a6 (t + 1) c6) _ _ iv (C.jl (t + 1)) (t + 1) (fun u => optI (C.run u)) (C.fin (t + 1)) (t + 1) (fun u => optI (C.K u)) (C.st (t + 1)).sv (C.dn (t + 1))) (.slice a8 (t + 1) c8) _ (.slice a6 (t + 1) c6) _ from LS.tick (js := js) (als := als) (lf := C.jl t) (fn := C.fin t) (st := (C.st (t + 1)).sv) (d := D) (rn := (fun k => if k = t then (-1) else optI (C.run k))) (ch := (fun k => if k = t then (kk : Int) else optI (C.K k))) L9.out (fun i _ => by rw [C.jl_succ, HRUN.out]; simp) (fun i hi => by
                                by_cases e : i = t
                                · subst e; rw [if_pos rfl, HRUN.out]; rfl
                                · rw [if_neg e]) (fun i _ => by rw [Cb.fin_succ, HRUN.out]; simp) (fun i hi => by
                                by_cases e : i = t
                                · subst e; rw [if_pos rfl, HK0.out]; rfl
                                · rw [if_neg e]) (fun i _ => rfl) (fun i _ => by rw [HDD.out]))
                              go_roundg (GT - 1)
                              case measure => have := HGT.out; have := HT.out; omega
                              case rel => exact ⟨t + 1, _, _, by have := HGT.out; have := HT.out; omega, by go_num, LF.out⟩
                            · have hfin' : ¬ (c.head : Int) < c'.head := by omega
                              have HFI := Lib.hid hfin
                              clear hfin
                              go_wp2_with (at_builtin; refine wpList_append_at _ rfl (.tmp 169) (.tmp 170) 26 rfl (w.heap.size + 2) 3 iI _ 1 8 Try.underlying26 HI.out.1 HI.out.2.1 HI.out.2.2.1 HI.out.2.2.2 rfl (by decide) _ t (vals (fun u => optI (C.run u)) t) rfl ((HL8.out.alloc _).pl.getI (j := 2) rfl) ⟨w9.heap.size, 0, none⟩ 1 1 [.int .i64 (-1)] rfl rfl (by simpa using news1 (w9) (-1) 3) (one1 _) (by unfold maxLen; omega) (by omega) (HL8.out.alloc _).sz (by decide) ?_; intro v8 u8 ho8 hg8 hp8 hn8; have L8 := (HL8.out.alloc _).pushI (j := 2) rfl ho8 hg8 hp8; obtain ⟨a8, c8, rfl⟩ := own_shape ho8; have r0 := L8.c.1; have r1 := L8.c.2.2.2.2 0; have L9 := Lib.hid (L8.out0 (.slice a8 (t + 1) c8)); clear ho8 hg8 hp8 hn8 L8)
                              have LF := Lib.hid (show LS w _ (tL js als ss.length _ _ (.slice a8 (t + 1) c8) _ (.slice a6 (t + 1) c6) _ _ iv (C.jl (t + 1)) (t + 1) (fun u => optI (C.run u)) (C.fin (t + 1)) (t + 1) (fun u => optI (C.K u)) (C.st (t + 1)).sv (C.dn (t + 1))) (.slice a8 (t + 1) c8) _ (.slice a6 (t + 1) c6) _ from LS.tick (js := js) (als := als) (lf := C.jl t) (fn := C.fin t) (st := (C.st (t + 1)).sv) (d := C.dn t) (rn := (fun k => if k = t then (-1) else optI (C.run k))) (ch := (fun k => if k = t then (kk : Int) else optI (C.K k))) L9.out (fun i _ => by rw [C.jl_succ, HRUN.out]; simp) (fun i hi => by
                                by_cases e : i = t
                                · subst e; rw [if_pos rfl, HRUN.out]; rfl
                                · rw [if_neg e]) (fun i _ => by rw [Cb.fin_succ, HRUN.out]; simp) (fun i hi => by
                                by_cases e : i = t
                                · subst e; rw [if_pos rfl, HK0.out]; rfl
                                · rw [if_neg e]) (fun i _ => rfl) (fun i _ => by
                                by_cases e : i = kk
                                · rw [e]; funext l; rw [Cb.dn_succ, ← HCC.out.1, ← HCC.out.2, if_neg (fun h => HFI.out (by have := h.2.1; have := h.2.2; omega))]
                                · exact EDO.out i e))
                              go_roundg (GT - 1)
                              case measure => have := HGT.out; have := HT.out; omega
                              case rel => exact ⟨t + 1, _, _, by have := HGT.out; have := HT.out; omega, by go_num, LF.out⟩
                          exact AllReadyH.nil
                        exact AllReadyH.nil
                      exact AllReadyH.nil
            · obtain rfl : t = 120 := by omega
              obtain ⟨f, hf⟩ := HL.out.b0
              have z0 := hf.frozen 0
              have z1 := hf.frozen 1
              have z2 := hf.frozen 2
              have z3 := hf.frozen 3
              have v0 := hf.cell (i := 0) (by omega)
              have v1 := hf.cell (i := 1) (by omega)
              have v2 := hf.cell (i := 2) (by omega)
              have v3 := hf.cell (i := 3) (by omega)
              have o0 := HL.out.c.1
              have o1 := HL.out.c.2.1
              have o2 := HL.out.c.2.2.1
              have o3 := HL.out.c.2.2.2.1
              clear hf
              go_wp2
              refine bodyPost_ret (v := .agg #[.slice ra 120 rcap, .slice fa js.length fcap, .slice ca 120 ccap, .slice va ss.length vcap]) ?_ rfl ⟨⟨_, _, _, _, iv, rfl, ?_⟩, ?_⟩
              · simp [results, Try.results93, go_sem, v0, v1, v2, v3]
              · rw [← HCQ.out]
                refine Pool.mono (base := w.heap.size + 2) (tL_res (vl := .slice la js.length lcap) (vk := .slice ka js.length kcap) (vt := .slice ta ss.length tcap) (lf := C.jl 120) (st := (C.st 120).sv) ?_) (by omega)
                repeat (first | exact HL.out.pl | refine Pool.other ?_ (by show w.heap.size < w.heap.size + 2; omega) _)
              · repeat (first | exact HL.out.be | refine Below.setCell ?_ (by show w.heap.size ≤ w.heap.size; omega) _)

end Go.Proofs.Ytlkibehieekceaa
