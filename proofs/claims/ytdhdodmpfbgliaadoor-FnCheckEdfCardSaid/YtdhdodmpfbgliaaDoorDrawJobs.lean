/- Contract of spec.l20Jobs. Conditions: the slice's cells hold a valid task set that does not lie in the reader's block. -/
import Derived.Test.YtdhdodmpfbgliaaDoorJobsDraw
namespace Go.Proofs.YtdhdodmpfbgliaaDoor
open Go.RowKit Go.Deep

theorem fJ4 (o : List J4) (k : Nat) : fJ o (k * 4) = (jb o k).1 ∧ fJ o (k * 4 + 1) = (jb o k).2.1 ∧ fJ o (k * 4 + 2) = (jb o k).2.2.1 ∧ fJ o (k * 4 + 3) = (jb o k).2.2.2 := by
  have f : ∀ c, c < 4 → fJ o (k * 4 + c) = cellJ (jb o k) c := fun c hc => by
    have h1 : (k * 4 + c) / 4 = k := by omega
    have h2 : (k * 4 + c) % 4 = c := by omega
    rw [fJ, h1, h2]
  exact ⟨f 0 (by omega), f 1 (by omega), f 2 (by omega), f 3 (by omega)⟩
theorem leg_bd {ts : List T3} {o : List J4} {k : Nat} (hv : ts.all tv = true) (h : Leg1 ts o k) : 0 ≤ (jb o k).2.1 ∧ (jb o k).2.1 ≤ 119 ∧ 0 ≤ (jb o k).2.2.1 ∧ (jb o k).2.2.1 ≤ 131 := by
  have hn := h.nat hv
  have hb := tv_bd hn.2.1
  obtain ⟨_, ⟨h1, h2⟩, _, h3, _⟩ := h
  omega
theorem JT.cellAt {rb q g cap m : Nat} {w wr : World} {o : List J4} (h : JT rb w wr q (.slice (some ⟨g, 0, none⟩) o.length cap) o) (hm : m < o.length * 4) : wr.cell? ⟨g, m, none⟩ = some (.int .i64 (fJ o m)) ∧ wr.frozen? ⟨g, m, none⟩ = false := by
  obtain ⟨g', cap', e, _, _, h3, h4⟩ := h.ow.at (by omega)
  simp only [Value.slice.injEq, Option.some.injEq, Addr.mk.injEq, and_true, true_and] at e
  obtain ⟨rfl, _⟩ := e
  exact ⟨h4 m hm, h3 m⟩
theorem JT.set' {rb q g cap k c a : Nat} {w wr : World} {o : List J4} (h : JT rb w wr q (.slice (some ⟨g, 0, none⟩) o.length cap) o) (hk : k < o.length) (hc : c < 4) (ha : a = k * 4 + c) (x : Int) :
    ∃ o' : List J4, o'.length = o.length ∧ JT rb w (wr.setCell ⟨g, a, none⟩ (.int .i64 x)) q (.slice (some ⟨g, 0, none⟩) o.length cap) o' := by
  subst ha
  refine ⟨_, ?_, by have h2 := h.set hk hc x; rwa [List.length_set] at h2⟩
  simp

set_option maxRecDepth 100000 in
set_option maxHeartbeats 8000000 in
/-- spec.l20Jobs. -/
theorem l20Jobs_any (rb p g off cap : Nat) (n : Int) (ts : List T3) (w : World) (hr : Rd w rb p) (hp : p ≤ 700000000) (hrow : Row w (some ⟨g, off, none⟩) ts) (hgne : g ≠ rb) (hv : svB ts = true) :
    Calls Tryd.prog 30 #[.pointer (some ⟨rb, 0, none⟩), .slice (some ⟨g, off, none⟩) ts.length cap, .int .i64 n] w (JobsDrawn rb p n ts w) := by
  obtain ⟨i0, hi, hz, hsz, hby⟩ := info_parts jobInfo
  have HI := Lib.hid (And.intro hi (And.intro hz (And.intro hsz hby)))
  clear hi hz hsz hby
  have hlt := hr.lt
  have HR := Lib.hid hr
  have HRW := Lib.hid hrow
  have HV := Lib.hid hv
  have hl5 := (sv_all hv).2
  clear hr hrow hv
  have hmk := run_make_ints ts.length (by omega)
  have nb0 : (w.alloc (.cells #[] 41)).heap.size = w.heap.size + 1 := by simp
  go_enter Tryd.func30, Tryd.ntmps30
  go_wp2_with fail
  refine (pick_any rb p 3 _ ((HR.out.alloc _).alloc _) (by omega)).mono ?_
  rintro e w1 ⟨D0, rfl, d0, d1, _, hg1, hr1⟩
  have d2 := d1 (by decide)
  have H0 := Lib.hid (show JD rb (w.heap.size + 1) w w1 (p + 1) (.slice (some ⟨w.heap.size, 0, none⟩) 0 0) ts.length [] (fun i => .int .i64 (nx ts [] 0 i : Nat)) from
    JD.pick (wr := (w.alloc (.cells #[] 41)).alloc (.cells (madeCells #[.int .i64 0] ts.length) 3)) ⟨⟨gb_alloc (gb_below (below_box _ _)) _, (HR.out.alloc _).alloc _, (OwnJ.empty w).below (below_box _ _), hlt⟩, by
      have h := World.rowIs_made (w.alloc (.cells #[] 41)) (.int .i64 0) ts.length 3
      rw [nb0] at h
      exact h, by simp [Value.ownBlock], by omega⟩ hg1 hr1)
  clear hg1 hr1 d1 hmk nb0
  go_wp2
  go_loopg [7, 10] 100 (fun m s z wr => ∃ (t : Nat) (o : List J4), m + t = 100 ∧ z = .int .i64 t ∧ JD rb (w.heap.size + 1) w wr (p + 1 + 15 * t) s ts.length o (fun i => .int .i64 (nx ts o o.length i : Nat)) ∧ LegS ts t 0 o)
  case atStart => exact ⟨0, [], by omega, rfl, H0.out, LegS.start ts⟩
  case round =>
    clear H0
    obtain ⟨t, o, hk, rfl, hjd, hls⟩ := hrel
    have HKO := Lib.hid hk
    have HJ := Lib.hid hjd
    have HL := Lib.hid hls
    obtain ⟨G, hG⟩ : ∃ G, G = gk := ⟨_, rfl⟩
    have HG := Lib.hid hG
    have htt : t ≤ 100 := by omega
    clear hk hjd hls hG
    by_cases hlt1 : t < 100
    · have hlt1' : (t : Int) < 100 := by omega
      go_wp2
      go_loopg [7, 11] ts.length (fun m s z wr => ∃ (i : Nat) (o : List J4), m + i = ts.length ∧ z = .int .i64 i ∧ JD rb (w.heap.size + 1) w wr (p + 1 + 15 * t + 3 * i) s ts.length o (fun i => .int .i64 (nx ts o o.length i : Nat)) ∧ LegS ts t i o)
      case atStart => exact ⟨0, o, by omega, rfl, HJ.out, HL.out⟩
      case round =>
        clear HJ HL
        obtain ⟨i, o, hk, rfl, hjd, hls⟩ := hrel
        have HK := Lib.hid hk
        have HJ := Lib.hid hjd
        have HL := Lib.hid hls
        have hii : i ≤ ts.length := by omega
        clear hk hjd hls
        by_cases hi : i < ts.length
        · obtain ⟨bt2, ot2, e2, _, y0, y1, y2⟩ := (HJ.out.toJT.row HRW.out hgne).at hi
          simp only [Option.some.injEq, Addr.mk.injEq, and_true] at e2
          obtain ⟨rfl, rfl⟩ := e2
          have hbd := tv_bd (tk_tv (sv_all HV.out).1 hi)
          obtain ⟨C, hC⟩ : ∃ C, C = (tk ts i).1 := ⟨_, rfl⟩
          obtain ⟨d, hd⟩ : ∃ d, d = (tk ts i).2.1 := ⟨_, rfl⟩
          obtain ⟨Q, hQ⟩ : ∃ Q, Q = (tk ts i).2.2 := ⟨_, rfl⟩
          rw [← hC] at y0
          rw [← hd] at y1
          rw [← hQ] at y2
          have P6e := Lib.hid hC
          have P6 := Lib.hid (show C = (tk ts i).1 from hC)
          have P7 := Lib.hid hd
          have P8 := Lib.hid hQ
          have P8q := Lib.hid (show Q = (per (tk ts i) : Nat) by rw [hQ]; exact hbd.2.2.2.2.2.2.2.symm)
          have hCb : 1 ≤ C ∧ C ≤ 8 := by rw [hC]; omega
          have hdb : 1 ≤ d ∧ d ≤ 12 := by rw [hd]; omega
          have hQb : 1 ≤ Q ∧ Q ≤ 12 := by rw [hQ]; omega
          clear hC hd hQ hbd
          have hlen := HL.out.len
          have z0 := HJ.out.nr.cell hi
          have z1 := HJ.out.nr.frozen i
          obtain ⟨N, hN⟩ : ∃ N, N = nx ts o o.length i := ⟨_, rfl⟩
          have hNb : N ≤ 131 := by rw [hN]; exact nx_le (sv_all HV.out).1 HL.out.leg i hi
          rw [← hN] at z0
          have HN := Lib.hid hN
          have HNq := HN
          clear hN
          obtain ⟨ao, capo, rfl⟩ := HJ.out.ow.shape
          have hi0 : (0 : Int) ≤ i := by omega
          have hi1 : (i : Int) < ts.length := by omega
          by_cases c1 : t < N
          · have c1' : (t : Int) < N := by omega
            go_wp2
            go_roundg (gk - 1)
            case measure => have := HK.out; omega
            case rel => exact ⟨i + 1, o, by have := HK.out; omega, by go_num, JD.more (q' := p + 1 + 15 * t + 3 * (i + 1)) HJ.out (by omega), HL.out.skip⟩
          · have c1' : ¬ (t : Int) < N := by omega
            by_cases c2 : o.length = 60
            · have c2' : ((o.length : Int) == 60) = true := by simp; omega
              clear c2
              go_wp2
              go_roundg (gk - 1)
              case measure => have := HK.out; omega
              case rel => exact ⟨i + 1, o, by have := HK.out; omega, by go_num, JD.more (q' := p + 1 + 15 * t + 3 * (i + 1)) HJ.out (by omega), HL.out.skip⟩
            · have c2' : ((o.length : Int) == 60) = false := by simp; omega
              have c3 : o.length < 60 := by omega
              clear c2
              by_cases c4 : D0 < 2
              · go_wp2_with fail
                refine (pick_any rb (p + 1 + 15 * t + 3 * i) _ _ HJ.out.rd (by omega)).mono ?_
                rintro e w2 ⟨u, rfl, u0, u1, _, hgu, hru⟩
                have HJ1 := Lib.hid (HJ.out.pick hgu hru)
                clear hgu hru u1 HJ
                have HJ := HJ1
                clear HJ1
                clear y0 y1 y2 z0 z1
                obtain ⟨bt2, ot2, e2, _, y0, y1, y2⟩ := (HJ.out.toJT.row HRW.out hgne).at hi
                simp only [Option.some.injEq, Addr.mk.injEq, and_true] at e2
                obtain ⟨rfl, rfl⟩ := e2
                rw [← P6e.out] at y0
                rw [← P7.out] at y1
                rw [← P8.out] at y2
                have z0 := HJ.out.nr.cell hi
                have z1 := HJ.out.nr.frozen i
                rw [← HNq.out] at z0
                by_cases c5 : 1 < u
                · go_wp2
                  go_roundg (gk - 1)
                  case measure => have := HK.out; omega
                  case rel => exact ⟨i + 1, o, by have := HK.out; omega, by go_num, JD.more (q' := p + 1 + 15 * t + 3 * (i + 1)) HJ.out (by omega), HL.out.skip⟩
                · have hpx : True := trivial
                  go_wp2_with fail
                  refine (pick_any rb _ 3 _ HJ.out.rd (by omega)).mono ?_
                  rintro e wp ⟨x, rfl, x0, x1, _, hgx, hrx⟩
                  have HJ1 := Lib.hid (HJ.out.pick hgx hrx)
                  clear hgx hrx x1 HJ
                  have HJ := HJ1
                  clear HJ1
                  clear y0 y1 y2 z0 z1
                  obtain ⟨bt2, ot2, e2, _, y0, y1, y2⟩ := (HJ.out.toJT.row HRW.out hgne).at hi
                  simp only [Option.some.injEq, Addr.mk.injEq, and_true] at e2
                  obtain ⟨rfl, rfl⟩ := e2
                  rw [← P6e.out] at y0
                  rw [← P7.out] at y1
                  rw [← P8.out] at y2
                  have z0 := HJ.out.nr.cell hi
                  have z1 := HJ.out.nr.frozen i
                  rw [← HNq.out] at z0
                  by_cases e0 : x = 0
                  · subst e0
                    go_wp2_with fail
                    refine (pick_any rb _ C _ HJ.out.rd (by omega)).mono ?_
                    rintro e wq ⟨y, rfl, yy0, yy1, _, hgy, hry⟩
                    have HJ1 := Lib.hid (HJ.out.pick hgy hry)
                    have hy := yy1 (by omega)
                    clear hgy hry yy1 HJ
                    have HJ := HJ1
                    clear HJ1
                    clear y0 y1 y2 z0 z1
                    obtain ⟨bt2, ot2, e2, _, y0, y1, y2⟩ := (HJ.out.toJT.row HRW.out hgne).at hi
                    simp only [Option.some.injEq, Addr.mk.injEq, and_true] at e2
                    obtain ⟨rfl, rfl⟩ := e2
                    rw [← P6e.out] at y0
                    rw [← P7.out] at y1
                    rw [← P8.out] at y2
                    have z0 := HJ.out.nr.cell hi
                    have z1 := HJ.out.nr.frozen i
                    rw [← HNq.out] at z0
                    go_wp2_with (at_builtin; refine wpList_append_at _ rfl (.tmp 65) (.tmp 77) 24 rfl w.heap.size 41 i0 _ 4 32 Tryd.underlying24 HI.out.1 HI.out.2.1 HI.out.2.2.1 HI.out.2.2.2 rfl (by decide) _ o.length (vals (fJ o) (o.length * 4)) rfl (HJ.out.alloc _).ow ⟨wq.heap.size, 0, none⟩ 1 1 [.int .i64 (i : Int), .int .i64 (t : Int), .int .i64 ((t : Int) + d), .int .i64 (1 + y)] rfl rfl (news4 _ _ _ _ _ _) (one4 _ _ _ _) (by unfold maxLen; omega) (by omega) (HJ.out.alloc _).gb.size (by decide) ?_; intro v' w' hown' hgrow hpl hnn; have HP := Lib.hid ((HJ.out.alloc _).push hown' hgrow hpl); have n0 := HP.out.nr.cell hi; have n1 := HP.out.nr.frozen i; have HRW2 := Lib.hid (HP.out.toJT.row HRW.out hgne); clear hown' hgrow hpl hnn; obtain ⟨bt2, ot2, e2, _, u0, u1, u2⟩ := HRW2.out.at hi; simp only [Option.some.injEq, Addr.mk.injEq, and_true] at e2; obtain ⟨rfl, rfl⟩ := e2; rw [← P8.out] at u2)
                    go_roundg (gk - 1)
                    case measure => have := HK.out; omega
                    case rel => exact ⟨i + 1, _, by have := HK.out; omega, by go_num, ((HP.out.setN i (.int .i64 ((t : Int) + Q))).congr fun j _ => nx_snoc P8q.out j).more (by omega), by have h := HL.out.add (e := (1 + y)) hi (by omega) (by have := HN.out; omega) (by have := P6.out; omega) (by omega); rw [← P7.out] at h; exact h⟩
                  · have e0' : (x == 0) = false := by simpa using e0
                    clear e0
                    go_wp2_with (at_builtin; refine wpList_append_at _ rfl (.tmp 65) (.tmp 77) 24 rfl w.heap.size 41 i0 _ 4 32 Tryd.underlying24 HI.out.1 HI.out.2.1 HI.out.2.2.1 HI.out.2.2.2 rfl (by decide) _ o.length (vals (fJ o) (o.length * 4)) rfl (HJ.out.alloc _).ow ⟨wp.heap.size, 0, none⟩ 1 1 [.int .i64 (i : Int), .int .i64 (t : Int), .int .i64 ((t : Int) + d), .int .i64 C] rfl rfl (news4 _ _ _ _ _ _) (one4 _ _ _ _) (by unfold maxLen; omega) (by omega) (HJ.out.alloc _).gb.size (by decide) ?_; intro v' w' hown' hgrow hpl hnn; have HP := Lib.hid ((HJ.out.alloc _).push hown' hgrow hpl); have n0 := HP.out.nr.cell hi; have n1 := HP.out.nr.frozen i; have HRW2 := Lib.hid (HP.out.toJT.row HRW.out hgne); clear hown' hgrow hpl hnn; obtain ⟨bt2, ot2, e2, _, u0, u1, u2⟩ := HRW2.out.at hi; simp only [Option.some.injEq, Addr.mk.injEq, and_true] at e2; obtain ⟨rfl, rfl⟩ := e2; rw [← P8.out] at u2)
                    go_roundg (gk - 1)
                    case measure => have := HK.out; omega
                    case rel => exact ⟨i + 1, _, by have := HK.out; omega, by go_num, ((HP.out.setN i (.int .i64 ((t : Int) + Q))).congr fun j _ => nx_snoc P8q.out j).more (by omega), by have h := HL.out.add (e := C) hi (by omega) (by have := HN.out; omega) (by have := P6.out; omega) (by omega); rw [← P7.out] at h; exact h⟩
              · have hpx : True := trivial
                go_wp2_with fail
                refine (pick_any rb _ 3 _ HJ.out.rd (by omega)).mono ?_
                rintro e wp ⟨x, rfl, x0, x1, _, hgx, hrx⟩
                have HJ1 := Lib.hid (HJ.out.pick hgx hrx)
                clear hgx hrx x1 HJ
                have HJ := HJ1
                clear HJ1
                clear y0 y1 y2 z0 z1
                obtain ⟨bt2, ot2, e2, _, y0, y1, y2⟩ := (HJ.out.toJT.row HRW.out hgne).at hi
                simp only [Option.some.injEq, Addr.mk.injEq, and_true] at e2
                obtain ⟨rfl, rfl⟩ := e2
                rw [← P6e.out] at y0
                rw [← P7.out] at y1
                rw [← P8.out] at y2
                have z0 := HJ.out.nr.cell hi
                have z1 := HJ.out.nr.frozen i
                rw [← HNq.out] at z0
                by_cases e0 : x = 0
                · subst e0
                  go_wp2_with fail
                  refine (pick_any rb _ C _ HJ.out.rd (by omega)).mono ?_
                  rintro e wq ⟨y, rfl, yy0, yy1, _, hgy, hry⟩
                  have HJ1 := Lib.hid (HJ.out.pick hgy hry)
                  have hy := yy1 (by omega)
                  clear hgy hry yy1 HJ
                  have HJ := HJ1
                  clear HJ1
                  clear y0 y1 y2 z0 z1
                  obtain ⟨bt2, ot2, e2, _, y0, y1, y2⟩ := (HJ.out.toJT.row HRW.out hgne).at hi
                  simp only [Option.some.injEq, Addr.mk.injEq, and_true] at e2
                  obtain ⟨rfl, rfl⟩ := e2
                  rw [← P6e.out] at y0
                  rw [← P7.out] at y1
                  rw [← P8.out] at y2
                  have z0 := HJ.out.nr.cell hi
                  have z1 := HJ.out.nr.frozen i
                  rw [← HNq.out] at z0
                  go_wp2_with (at_builtin; refine wpList_append_at _ rfl (.tmp 65) (.tmp 77) 24 rfl w.heap.size 41 i0 _ 4 32 Tryd.underlying24 HI.out.1 HI.out.2.1 HI.out.2.2.1 HI.out.2.2.2 rfl (by decide) _ o.length (vals (fJ o) (o.length * 4)) rfl (HJ.out.alloc _).ow ⟨wq.heap.size, 0, none⟩ 1 1 [.int .i64 (i : Int), .int .i64 (t : Int), .int .i64 ((t : Int) + d), .int .i64 (1 + y)] rfl rfl (news4 _ _ _ _ _ _) (one4 _ _ _ _) (by unfold maxLen; omega) (by omega) (HJ.out.alloc _).gb.size (by decide) ?_; intro v' w' hown' hgrow hpl hnn; have HP := Lib.hid ((HJ.out.alloc _).push hown' hgrow hpl); have n0 := HP.out.nr.cell hi; have n1 := HP.out.nr.frozen i; have HRW2 := Lib.hid (HP.out.toJT.row HRW.out hgne); clear hown' hgrow hpl hnn; obtain ⟨bt2, ot2, e2, _, u0, u1, u2⟩ := HRW2.out.at hi; simp only [Option.some.injEq, Addr.mk.injEq, and_true] at e2; obtain ⟨rfl, rfl⟩ := e2; rw [← P8.out] at u2)
                  go_roundg (gk - 1)
                  case measure => have := HK.out; omega
                  case rel => exact ⟨i + 1, _, by have := HK.out; omega, by go_num, ((HP.out.setN i (.int .i64 ((t : Int) + Q))).congr fun j _ => nx_snoc P8q.out j).more (by omega), by have h := HL.out.add (e := (1 + y)) hi (by omega) (by have := HN.out; omega) (by have := P6.out; omega) (by omega); rw [← P7.out] at h; exact h⟩
                · have e0' : (x == 0) = false := by simpa using e0
                  clear e0
                  go_wp2_with (at_builtin; refine wpList_append_at _ rfl (.tmp 65) (.tmp 77) 24 rfl w.heap.size 41 i0 _ 4 32 Tryd.underlying24 HI.out.1 HI.out.2.1 HI.out.2.2.1 HI.out.2.2.2 rfl (by decide) _ o.length (vals (fJ o) (o.length * 4)) rfl (HJ.out.alloc _).ow ⟨wp.heap.size, 0, none⟩ 1 1 [.int .i64 (i : Int), .int .i64 (t : Int), .int .i64 ((t : Int) + d), .int .i64 C] rfl rfl (news4 _ _ _ _ _ _) (one4 _ _ _ _) (by unfold maxLen; omega) (by omega) (HJ.out.alloc _).gb.size (by decide) ?_; intro v' w' hown' hgrow hpl hnn; have HP := Lib.hid ((HJ.out.alloc _).push hown' hgrow hpl); have n0 := HP.out.nr.cell hi; have n1 := HP.out.nr.frozen i; have HRW2 := Lib.hid (HP.out.toJT.row HRW.out hgne); clear hown' hgrow hpl hnn; obtain ⟨bt2, ot2, e2, _, u0, u1, u2⟩ := HRW2.out.at hi; simp only [Option.some.injEq, Addr.mk.injEq, and_true] at e2; obtain ⟨rfl, rfl⟩ := e2; rw [← P8.out] at u2)
                  go_roundg (gk - 1)
                  case measure => have := HK.out; omega
                  case rel => exact ⟨i + 1, _, by have := HK.out; omega, by go_num, ((HP.out.setN i (.int .i64 ((t : Int) + Q))).congr fun j _ => nx_snoc P8q.out j).more (by omega), by have h := HL.out.add (e := C) hi (by omega) (by have := HN.out; omega) (by have := P6.out; omega) (by omega); rw [← P7.out] at h; exact h⟩
        · obtain rfl : i = ts.length := by omega
          go_wp2
          go_roundg (G - 1)
          case measure => have := HKO.out; have := HG.out; omega
          case rel => exact ⟨t + 1, o, by have := HKO.out; have := HG.out; omega, by go_num, HJ.out.more (by omega), HL.out.next⟩
    · obtain rfl : t = 100 := by omega
      have hlen := HL.out.len
      have HLG := Lib.hid (show legB ts o = true from legB_iff.2 ⟨HV.out, hlen, HL.out.leg⟩)
      obtain ⟨ao, capo, rfl⟩ := HJ.out.ow.shape
      have HT := Lib.hid HJ.out.toJT
      clear HJ
      go_wp2_with fail
      refine (odd_full rb (p + 1501) n _ HT.out.rd (by omega)).mono ?_
      rintro e w2 ⟨bo, rfl, hgo, hro, hbo⟩
      have HT1 := Lib.hid (HT.out.pick hgo hro)
      have HBO := Lib.hid hbo
      clear hgo hro hbo HT
      cases bo with
      | false =>
        go_wp2
        go_ret
        exact ⟨_, o, rfl, HT1.out.more (by omega), by omega, fun _ => HLG.out⟩
      | true =>
        by_cases hl0 : 0 < o.length
        · have hl0' : (0 : Int) < o.length := by omega
          go_wp2_with fail
          refine (pick_any rb (p + 1502) _ _ HT1.out.rd (by omega)).mono ?_
          rintro e w3 ⟨x, rfl, x0, x1, _, hg3, hr3⟩
          have x2 := x1 (by omega)
          obtain ⟨k, rfl⟩ := Int.eq_ofNat_of_zero_le x0
          have hk : k < o.length := by omega
          have HT2 := Lib.hid (HT1.out.pick hg3 hr3)
          clear hg3 hr3 x1 HT1
          go_wp2_with fail
          refine (pick_any rb (p + 1503) 6 _ HT2.out.rd (by omega)).mono ?_
          rintro e w4 ⟨u, rfl, u0, u1, _, hg4, hr4⟩
          have u2 := u1 (by decide)
          have HT := Lib.hid (HT2.out.pick hg4 hr4)
          have hltw := hr4.lt
          clear hg4 hr4 u1 HT2
          obtain ⟨go, capo', e', hgo, hgo2, zf, yc⟩ := HT.out.ow.at hl0
          simp only [Value.slice.injEq] at e'
          obtain ⟨rfl, _, rfl⟩ := e'
          have f0 := zf (k * 4)
          have f1 := zf (k * 4 + 1)
          have f2 := zf (k * 4 + 2)
          have f3 := zf (k * 4 + 3)
          have a0 := yc (k * 4) (by omega)
          have a1 := yc (k * 4 + 1) (by omega)
          have a2 := yc (k * 4 + 2) (by omega)
          have a3 := yc (k * 4 + 3) (by omega)
          rw [(fJ4 o k).1] at a0
          rw [(fJ4 o k).2.1] at a1
          rw [(fJ4 o k).2.2.1] at a2
          rw [(fJ4 o k).2.2.2] at a3
          have hjb := leg_bd (sv_all HV.out).1 (HL.out.leg k hk)
          obtain ⟨⟨I, R, D, X⟩, hJ⟩ : ∃ j, j = jb o k := ⟨_, rfl⟩
          rw [← hJ] at a0 a1 a2 a3 hjb
          simp only at a0 a1 a2 a3 hjb
          obtain ⟨r0, r1, r2, r3⟩ := hjb
          have HJR := Lib.hid (show R = (jb o k).2.1 by rw [← hJ])
          clear hJ zf yc
          have hk0 : (0 : Int) ≤ k := by omega
          by_cases e0 : u = 0
          · subst e0
            go_wp2_with fail
            refine (pick_any rb (p + 1504) 2 _ (HT.out.alloc _).rd (by omega)).mono ?_
            rintro e w5 ⟨y, rfl, y0, y1, _, hg5, hr5⟩
            have y2 := y1 (by decide)
            obtain ⟨P, _, hcP⟩ := ints_new (j := y.toNat) [-1, (ts.length : Int)] hg5 hltw (by simp; omega)
            have HT5 := Lib.hid ((HT.out.alloc _).pick hg5 hr5)
            obtain ⟨b0, c0⟩ := HT5.out.cellAt (m := k * 4) (by omega)
            clear hg5 hr5 y1 f0 f1 f2 f3 a0 a1 a2 a3
            go_wp2
            go_ret
            obtain ⟨o', ho', hT'⟩ := HT5.out.set' hk (c := 0) (by omega) rfl P
            exact ⟨_, o', rfl, JT.more (q' := p + 2000) hT' (by omega), by omega, fun h => absurd (HBO.out h) (by decide)⟩
          · by_cases e1 : u = 1
            · subst e1
              have hw3 : IntKind.i64.wrap (R + 1) = R + 1 := IntWalk.i64_in _ (by omega)
              go_wp2
              refine wp_region_noPanic ?_
              refine wp_region_held_drew (S := fun _ => True) (by kernel_rfl) ?_ (fun hHeld => ?_)
              · (try dsimp only)
                first | done | trivial
              refine wpAnyH_take (i := 0) (v := ?_) (toArr_get _ 0 _ rfl) (by kernel_rfl) (by kernel_rfl) (by kernel_rfl) (fun _ _ _ h => h) (Or.inl ⟨by rfl, ?_⟩) (by assumption) ?_
              rotate_left
              · (intro w hSw; (try dsimp only at hSw); go_simp; (try with_reducible rfl))
              (try simp only [Act.put, List.setIfInBounds_toArray, List.set_cons_zero, List.set_cons_succ])
              refine wpAnyH_take (i := 1) (v := ?_) (toArr_get _ 1 _ rfl) (by kernel_rfl) (by kernel_rfl) (by kernel_rfl) (fun _ _ _ h => h) (Or.inl ⟨by rfl, ?_⟩) (by assumption) ?_
              rotate_left
              · (intro w hSw; (try dsimp only at hSw); go_simp; (try with_reducible rfl))
              (try simp only [Act.put, List.setIfInBounds_toArray, List.set_cons_zero, List.set_cons_succ])
              refine wpAnyH_take (i := 2) (v := ?_) (toArr_get _ 2 _ rfl) (by kernel_rfl) (by kernel_rfl) (by kernel_rfl) (fun _ _ _ h => h) (Or.inl ⟨by rfl, ?_⟩) (by assumption) ?_
              rotate_left
              · (intro w hSw; (try dsimp only at hSw); go_simp; (try with_reducible rfl))
              (try simp only [Act.put, List.setIfInBounds_toArray, List.set_cons_zero, List.set_cons_succ])
              refine wpAnyH_take (i := 3) (v := ?_) (toArr_get _ 3 _ rfl) (by kernel_rfl) (by kernel_rfl) (by kernel_rfl) (fun _ _ _ h => h) (Or.inl ⟨by rfl, ?_⟩) (by assumption) ?_
              rotate_left
              · (intro w hSw; (try dsimp only at hSw); go_simp; (try with_reducible rfl))
              (try simp only [Act.put, List.setIfInBounds_toArray, List.set_cons_zero, List.set_cons_succ])
              refine wpAnyH_take (i := 4) (v := ?_) (toArr_get _ 4 _ rfl) (by kernel_rfl) (by kernel_rfl) (by kernel_rfl) (fun _ _ _ h => h) (Or.inl ⟨by rfl, ?_⟩) (by assumption) ?_
              rotate_left
              · (intro w hSw; (try dsimp only at hSw); go_simp; (try with_reducible rfl))
              (try simp only [Act.put, List.setIfInBounds_toArray, List.set_cons_zero, List.set_cons_succ])
              refine wpAnyH_take (i := 5) (v := ?_) (toArr_get _ 5 _ rfl) (by kernel_rfl) (by kernel_rfl) (by kernel_rfl) (fun _ _ _ h => h) (Or.inl ⟨by rfl, ?_⟩) (by assumption) ?_
              rotate_left
              · (intro w hSw; (try dsimp only at hSw); go_simp; (try with_reducible rfl))
              (try simp only [Act.put, List.setIfInBounds_toArray, List.set_cons_zero, List.set_cons_succ])
              refine wpAnyH_take (i := 9) (v := ?_) (toArr_get _ 9 _ rfl) (by kernel_rfl) (by kernel_rfl) (by kernel_rfl) (fun _ _ _ h => h) (Or.inl ⟨by rfl, ?_⟩) (by assumption) ?_
              rotate_left
              · (intro w hSw; (try dsimp only at hSw); go_simp; (try with_reducible rfl))
              (try simp only [Act.put, List.setIfInBounds_toArray, List.set_cons_zero, List.set_cons_succ])
              refine wpAnyH_ready (rs := [6, 10]) (by kernel_rfl) (by simp) ?_
              refine AllReadyH.cons (toArr_get _ 6 _ rfl) (fun K hK => ?_) ?_
              · go_simp
                refine hK.out _ _ ?_ (fun hHeld2 => ?_)
                · (try dsimp only)
                  first | done | trivial
                clear hK K hHeld
                have hHeld := hHeld2
                clear hHeld2
                (try simp only [Act.put, List.setIfInBounds_toArray, List.set_cons_zero, List.set_cons_succ])
                refine wpAnyH_take (i := 7) (v := ?_) (toArr_get _ 7 _ rfl) (by kernel_rfl) (by kernel_rfl) (by kernel_rfl) (fun _ _ _ h => h) (Or.inl ⟨by rfl, ?_⟩) (by assumption) ?_
                rotate_left
                · (intro w hSw; (try dsimp only at hSw); go_simp; (try with_reducible rfl))
                (try simp only [Act.put, List.setIfInBounds_toArray, List.set_cons_zero, List.set_cons_succ])
                refine wpAnyH_ready (rs := [8, 10]) (by kernel_rfl) (by simp) ?_
                refine AllReadyH.cons (toArr_get _ 8 _ rfl) (fun K hK => ?_) ?_
                · go_simp
                  refine hK.out _ _ ?_ (fun hHeld2 => ?_)
                  · (try dsimp only)
                    first | done | trivial
                  clear hK K hHeld
                  have hHeld := hHeld2
                  clear hHeld2
                  (try simp only [Act.put, List.setIfInBounds_toArray, List.set_cons_zero, List.set_cons_succ])
                  refine wpAnyH_ready (rs := [10]) (by kernel_rfl) (by simp) ?_
                  refine AllReadyH.cons (toArr_get _ 10 _ rfl) (fun K hK => ?_) ?_
                  · go_simp
                    go_at_call 42
                    refine (pick_any rb (p + 1504) 3 _ ?_ ?_).mono ?_
                    · first | exact HT.out.rd.drew | exact (HT.out.alloc _).rd.drew | exact (HT.out.drew.alloc _).rd
                    · omega
                    rintro e w5 ⟨y, rfl, y0, y1, _, hg5, hr5⟩
                    have yp := y1 (by decide)
                    have hT5 : JT rb w w5 (p + 1505) (.slice (some ⟨go, 0, none⟩) o.length capo) o := by first | exact HT.out.drew.pick hg5 hr5 | exact (HT.out.alloc _).drew.pick hg5 hr5 | exact (HT.out.drew.alloc _).pick hg5 hr5
                    have HT5 := Lib.hid hT5
                    obtain ⟨b0, c0⟩ := hT5.cellAt (m := k * 4 + 1) (by omega)
                    rw [(fJ4 o k).2.1, ← HJR.out] at b0
                    have b1 : ∀ x, (w5.alloc x).cell? ⟨go, k * 4 + 1, none⟩ = some (.int .i64 R) := fun x => by have h := ((hT5.alloc x).cellAt (m := k * 4 + 1) (by omega)).1; rw [(fJ4 o k).2.1, ← HJR.out] at h; exact h
                    have c1 : ∀ x, (w5.alloc x).frozen? ⟨go, k * 4 + 1, none⟩ = false := fun x => ((hT5.alloc x).cellAt (m := k * 4 + 1) (by omega)).2
                    have hsel := sel3_new y y0 yp
                    have hlt5 := hr5.lt
                    have h5ne : go ≠ w5.heap.size := Nat.ne_of_lt (hT5.ow.lt go rfl).2
                    (try have hA := sel3_grown y y0 yp (gb_trans (gb_drew (gb_refl _ _)) hg5) hltw)
                    clear hr5 hT5 y1 a1 f1
                    go_wp2_with fail
                    refine hK.out _ _ ?_ (fun hHeld2 => ?_)
                    · (try dsimp only)
                      first | done | trivial
                    clear hK K hHeld
                    have hHeld := hHeld2
                    clear hHeld2
                    (try simp only [Act.put, List.setIfInBounds_toArray, List.set_cons_zero, List.set_cons_succ])
                    refine wpAnyH_take (i := 11) (v := ?_) (toArr_get _ 11 _ rfl) (by kernel_rfl) (by kernel_rfl) (by kernel_rfl) (fun _ _ _ h => h) (Or.inl ⟨by rfl, ?_⟩) (by assumption) ?_
                    rotate_left
                    · (intro w hSw; (try dsimp only at hSw); go_simp; (try with_reducible rfl))
                    (try simp only [Act.put, List.setIfInBounds_toArray, List.set_cons_zero, List.set_cons_succ])
                    refine wpAnyH_ready (rs := [12]) (by kernel_rfl) (by simp) ?_
                    refine AllReadyH.cons (toArr_get _ 12 _ rfl) (fun K hK => ?_) ?_
                    · go_simp
                      refine hK.out _ _ ?_ (fun hHeld2 => ?_)
                      · (try dsimp only)
                        first | done | trivial
                      clear hK K hHeld
                      have hHeld := hHeld2
                      clear hHeld2
                      (try simp only [Act.put, List.setIfInBounds_toArray, List.set_cons_zero, List.set_cons_succ])
                      refine wpAnyH_take (i := 13) (v := ?_) (toArr_get _ 13 _ rfl) (by kernel_rfl) (by kernel_rfl) (by kernel_rfl) (fun _ _ _ h => h) (Or.inl ⟨by rfl, ?_⟩) (by assumption) ?_
                      rotate_left
                      · (intro w hSw; (try dsimp only at hSw); go_simp; (try with_reducible rfl))
                      (try simp only [Act.put, List.setIfInBounds_toArray, List.set_cons_zero, List.set_cons_succ])
                      refine wpAnyH_take (i := 14) (v := ?_) (toArr_get _ 14 _ rfl) (by kernel_rfl) (by kernel_rfl) (by kernel_rfl) (fun _ _ _ h => h) (Or.inl ⟨by rfl, ?_⟩) (by assumption) ?_
                      rotate_left
                      · (intro w hSw; (try dsimp only at hSw); go_simp; (try with_reducible rfl))
                      (try simp only [Act.put, List.setIfInBounds_toArray, List.set_cons_zero, List.set_cons_succ])
                      refine wpAnyH_ready (rs := [15]) (by kernel_rfl) (by simp) ?_
                      refine AllReadyH.cons (toArr_get _ 15 _ rfl) (fun K hK => ?_) ?_
                      · go_simp
                        refine hK.out _ _ ?_ (fun hHeld2 => ?_)
                        · (try dsimp only)
                          first | done | trivial
                        clear hK K hHeld
                        have hHeld := hHeld2
                        clear hHeld2
                        (try simp only [Act.put, List.setIfInBounds_toArray, List.set_cons_zero, List.set_cons_succ])
                        refine wpAnyH_done (by kernel_rfl) ?_ _
                        refine NoPanic.normal ?_
                        go_wp2_with fail
                        go_ret
                        first | (obtain ⟨o', ho', hT'⟩ := HT5.out.set' hk (c := 1) (by omega) rfl (sel3 y (-1) 120 (R + 1)); exact ⟨_, o', rfl, JT.more (q' := p + 2000) hT' (by omega), by omega, fun h => absurd (HBO.out h) (by decide)⟩) | (obtain ⟨o', ho', hT'⟩ := (HT5.out.alloc (.cells #[.int .i64 (-1), .int .i64 120, .int .i64 (R + 1)] 3)).set' hk (c := 1) (by omega) rfl (sel3 y (-1) 120 (R + 1)); exact ⟨_, o', rfl, JT.more (q' := p + 2000) hT' (by omega), by omega, fun h => absurd (HBO.out h) (by decide)⟩)
                      exact AllReadyH.nil
                    exact AllReadyH.nil
                  exact AllReadyH.nil
                refine AllReadyH.cons (toArr_get _ 10 _ rfl) (fun K hK => ?_) ?_
                · go_simp
                  go_at_call 42
                  refine (pick_any rb (p + 1504) 3 _ ?_ ?_).mono ?_
                  · first | exact HT.out.rd.drew | exact (HT.out.alloc _).rd.drew | exact (HT.out.drew.alloc _).rd
                  · omega
                  rintro e w5 ⟨y, rfl, y0, y1, _, hg5, hr5⟩
                  have yp := y1 (by decide)
                  have hT5 : JT rb w w5 (p + 1505) (.slice (some ⟨go, 0, none⟩) o.length capo) o := by first | exact HT.out.drew.pick hg5 hr5 | exact (HT.out.alloc _).drew.pick hg5 hr5 | exact (HT.out.drew.alloc _).pick hg5 hr5
                  have HT5 := Lib.hid hT5
                  obtain ⟨b0, c0⟩ := hT5.cellAt (m := k * 4 + 1) (by omega)
                  rw [(fJ4 o k).2.1, ← HJR.out] at b0
                  have b1 : ∀ x, (w5.alloc x).cell? ⟨go, k * 4 + 1, none⟩ = some (.int .i64 R) := fun x => by have h := ((hT5.alloc x).cellAt (m := k * 4 + 1) (by omega)).1; rw [(fJ4 o k).2.1, ← HJR.out] at h; exact h
                  have c1 : ∀ x, (w5.alloc x).frozen? ⟨go, k * 4 + 1, none⟩ = false := fun x => ((hT5.alloc x).cellAt (m := k * 4 + 1) (by omega)).2
                  have hsel := sel3_new y y0 yp
                  have hlt5 := hr5.lt
                  have h5ne : go ≠ w5.heap.size := Nat.ne_of_lt (hT5.ow.lt go rfl).2
                  (try have hA := sel3_grown y y0 yp (gb_trans (gb_drew (gb_refl _ _)) hg5) hltw)
                  clear hr5 hT5 y1 a1 f1
                  go_wp2_with fail
                  refine hK.out _ _ ?_ (fun hHeld2 => ?_)
                  · (try dsimp only)
                    first | done | trivial
                  clear hK K hHeld
                  have hHeld := hHeld2
                  clear hHeld2
                  (try simp only [Act.put, List.setIfInBounds_toArray, List.set_cons_zero, List.set_cons_succ])
                  refine wpAnyH_ready (rs := [8]) (by kernel_rfl) (by simp) ?_
                  refine AllReadyH.cons (toArr_get _ 8 _ rfl) (fun K hK => ?_) ?_
                  · go_simp
                    refine hK.out _ _ ?_ (fun hHeld2 => ?_)
                    · (try dsimp only)
                      first | done | trivial
                    clear hK K hHeld
                    have hHeld := hHeld2
                    clear hHeld2
                    (try simp only [Act.put, List.setIfInBounds_toArray, List.set_cons_zero, List.set_cons_succ])
                    refine wpAnyH_take (i := 11) (v := ?_) (toArr_get _ 11 _ rfl) (by kernel_rfl) (by kernel_rfl) (by kernel_rfl) (fun _ _ _ h => h) (Or.inl ⟨by rfl, ?_⟩) (by assumption) ?_
                    rotate_left
                    · (intro w hSw; (try dsimp only at hSw); go_simp; (try with_reducible rfl))
                    (try simp only [Act.put, List.setIfInBounds_toArray, List.set_cons_zero, List.set_cons_succ])
                    refine wpAnyH_ready (rs := [12]) (by kernel_rfl) (by simp) ?_
                    refine AllReadyH.cons (toArr_get _ 12 _ rfl) (fun K hK => ?_) ?_
                    · go_simp
                      refine hK.out _ _ ?_ (fun hHeld2 => ?_)
                      · (try dsimp only)
                        first | done | trivial
                      clear hK K hHeld
                      have hHeld := hHeld2
                      clear hHeld2
                      (try simp only [Act.put, List.setIfInBounds_toArray, List.set_cons_zero, List.set_cons_succ])
                      refine wpAnyH_take (i := 13) (v := ?_) (toArr_get _ 13 _ rfl) (by kernel_rfl) (by kernel_rfl) (by kernel_rfl) (fun _ _ _ h => h) (Or.inl ⟨by rfl, ?_⟩) (by assumption) ?_
                      rotate_left
                      · (intro w hSw; (try dsimp only at hSw); go_simp; (try with_reducible rfl))
                      (try simp only [Act.put, List.setIfInBounds_toArray, List.set_cons_zero, List.set_cons_succ])
                      refine wpAnyH_take (i := 14) (v := ?_) (toArr_get _ 14 _ rfl) (by kernel_rfl) (by kernel_rfl) (by kernel_rfl) (fun _ _ _ h => h) (Or.inl ⟨by rfl, ?_⟩) (by assumption) ?_
                      rotate_left
                      · (intro w hSw; (try dsimp only at hSw); go_simp; (try with_reducible rfl))
                      (try simp only [Act.put, List.setIfInBounds_toArray, List.set_cons_zero, List.set_cons_succ])
                      refine wpAnyH_ready (rs := [15]) (by kernel_rfl) (by simp) ?_
                      refine AllReadyH.cons (toArr_get _ 15 _ rfl) (fun K hK => ?_) ?_
                      · go_simp
                        refine hK.out _ _ ?_ (fun hHeld2 => ?_)
                        · (try dsimp only)
                          first | done | trivial
                        clear hK K hHeld
                        have hHeld := hHeld2
                        clear hHeld2
                        (try simp only [Act.put, List.setIfInBounds_toArray, List.set_cons_zero, List.set_cons_succ])
                        refine wpAnyH_done (by kernel_rfl) ?_ _
                        refine NoPanic.normal ?_
                        go_wp2_with fail
                        go_ret
                        first | (obtain ⟨o', ho', hT'⟩ := HT5.out.set' hk (c := 1) (by omega) rfl (sel3 y (-1) 120 (R + 1)); exact ⟨_, o', rfl, JT.more (q' := p + 2000) hT' (by omega), by omega, fun h => absurd (HBO.out h) (by decide)⟩) | (obtain ⟨o', ho', hT'⟩ := (HT5.out.alloc (.cells #[.int .i64 (-1), .int .i64 120, .int .i64 (R + 1)] 3)).set' hk (c := 1) (by omega) rfl (sel3 y (-1) 120 (R + 1)); exact ⟨_, o', rfl, JT.more (q' := p + 2000) hT' (by omega), by omega, fun h => absurd (HBO.out h) (by decide)⟩)
                      exact AllReadyH.nil
                    exact AllReadyH.nil
                  exact AllReadyH.nil
                exact AllReadyH.nil
              refine AllReadyH.cons (toArr_get _ 10 _ rfl) (fun K hK => ?_) ?_
              · go_simp
                go_at_call 42
                refine (pick_any rb (p + 1504) 3 _ ?_ ?_).mono ?_
                · first | exact HT.out.rd.drew | exact (HT.out.alloc _).rd.drew | exact (HT.out.drew.alloc _).rd
                · omega
                rintro e w5 ⟨y, rfl, y0, y1, _, hg5, hr5⟩
                have yp := y1 (by decide)
                have hT5 : JT rb w w5 (p + 1505) (.slice (some ⟨go, 0, none⟩) o.length capo) o := by first | exact HT.out.drew.pick hg5 hr5 | exact (HT.out.alloc _).drew.pick hg5 hr5 | exact (HT.out.drew.alloc _).pick hg5 hr5
                have HT5 := Lib.hid hT5
                obtain ⟨b0, c0⟩ := hT5.cellAt (m := k * 4 + 1) (by omega)
                rw [(fJ4 o k).2.1, ← HJR.out] at b0
                have b1 : ∀ x, (w5.alloc x).cell? ⟨go, k * 4 + 1, none⟩ = some (.int .i64 R) := fun x => by have h := ((hT5.alloc x).cellAt (m := k * 4 + 1) (by omega)).1; rw [(fJ4 o k).2.1, ← HJR.out] at h; exact h
                have c1 : ∀ x, (w5.alloc x).frozen? ⟨go, k * 4 + 1, none⟩ = false := fun x => ((hT5.alloc x).cellAt (m := k * 4 + 1) (by omega)).2
                have hsel := sel3_new y y0 yp
                have hlt5 := hr5.lt
                have h5ne : go ≠ w5.heap.size := Nat.ne_of_lt (hT5.ow.lt go rfl).2
                (try have hA := sel3_grown y y0 yp (gb_trans (gb_drew (gb_refl _ _)) hg5) hltw)
                clear hr5 hT5 y1 a1 f1
                go_wp2_with fail
                refine hK.out _ _ ?_ (fun hHeld2 => ?_)
                · (try dsimp only)
                  first | done | trivial
                clear hK K hHeld
                have hHeld := hHeld2
                clear hHeld2
                (try simp only [Act.put, List.setIfInBounds_toArray, List.set_cons_zero, List.set_cons_succ])
                refine wpAnyH_ready (rs := [6]) (by kernel_rfl) (by simp) ?_
                refine AllReadyH.cons (toArr_get _ 6 _ rfl) (fun K hK => ?_) ?_
                · go_simp
                  refine hK.out _ _ ?_ (fun hHeld2 => ?_)
                  · (try dsimp only)
                    first | done | trivial
                  clear hK K hHeld
                  have hHeld := hHeld2
                  clear hHeld2
                  (try simp only [Act.put, List.setIfInBounds_toArray, List.set_cons_zero, List.set_cons_succ])
                  refine wpAnyH_take (i := 7) (v := ?_) (toArr_get _ 7 _ rfl) (by kernel_rfl) (by kernel_rfl) (by kernel_rfl) (fun _ _ _ h => h) (Or.inl ⟨by rfl, ?_⟩) (by assumption) ?_
                  rotate_left
                  · (intro w hSw; (try dsimp only at hSw); go_simp; (try with_reducible rfl))
                  (try simp only [Act.put, List.setIfInBounds_toArray, List.set_cons_zero, List.set_cons_succ])
                  refine wpAnyH_ready (rs := [8]) (by kernel_rfl) (by simp) ?_
                  refine AllReadyH.cons (toArr_get _ 8 _ rfl) (fun K hK => ?_) ?_
                  · go_simp
                    refine hK.out _ _ ?_ (fun hHeld2 => ?_)
                    · (try dsimp only)
                      first | done | trivial
                    clear hK K hHeld
                    have hHeld := hHeld2
                    clear hHeld2
                    (try simp only [Act.put, List.setIfInBounds_toArray, List.set_cons_zero, List.set_cons_succ])
                    refine wpAnyH_take (i := 11) (v := ?_) (toArr_get _ 11 _ rfl) (by kernel_rfl) (by kernel_rfl) (by kernel_rfl) (fun _ _ _ h => h) (Or.inl ⟨by rfl, ?_⟩) (by assumption) ?_
                    rotate_left
                    · (intro w hSw; (try dsimp only at hSw); go_simp; (try with_reducible rfl))
                    (try simp only [Act.put, List.setIfInBounds_toArray, List.set_cons_zero, List.set_cons_succ])
                    refine wpAnyH_ready (rs := [12]) (by kernel_rfl) (by simp) ?_
                    refine AllReadyH.cons (toArr_get _ 12 _ rfl) (fun K hK => ?_) ?_
                    · go_simp
                      refine hK.out _ _ ?_ (fun hHeld2 => ?_)
                      · (try dsimp only)
                        first | done | trivial
                      clear hK K hHeld
                      have hHeld := hHeld2
                      clear hHeld2
                      (try simp only [Act.put, List.setIfInBounds_toArray, List.set_cons_zero, List.set_cons_succ])
                      refine wpAnyH_take (i := 13) (v := ?_) (toArr_get _ 13 _ rfl) (by kernel_rfl) (by kernel_rfl) (by kernel_rfl) (fun _ _ _ h => h) (Or.inl ⟨by rfl, ?_⟩) (by assumption) ?_
                      rotate_left
                      · (intro w hSw; (try dsimp only at hSw); go_simp; (try with_reducible rfl))
                      (try simp only [Act.put, List.setIfInBounds_toArray, List.set_cons_zero, List.set_cons_succ])
                      refine wpAnyH_take (i := 14) (v := ?_) (toArr_get _ 14 _ rfl) (by kernel_rfl) (by kernel_rfl) (by kernel_rfl) (fun _ _ _ h => h) (Or.inl ⟨by rfl, ?_⟩) (by assumption) ?_
                      rotate_left
                      · (intro w hSw; (try dsimp only at hSw); go_simp; (try with_reducible rfl))
                      (try simp only [Act.put, List.setIfInBounds_toArray, List.set_cons_zero, List.set_cons_succ])
                      refine wpAnyH_ready (rs := [15]) (by kernel_rfl) (by simp) ?_
                      refine AllReadyH.cons (toArr_get _ 15 _ rfl) (fun K hK => ?_) ?_
                      · go_simp
                        refine hK.out _ _ ?_ (fun hHeld2 => ?_)
                        · (try dsimp only)
                          first | done | trivial
                        clear hK K hHeld
                        have hHeld := hHeld2
                        clear hHeld2
                        (try simp only [Act.put, List.setIfInBounds_toArray, List.set_cons_zero, List.set_cons_succ])
                        refine wpAnyH_done (by kernel_rfl) ?_ _
                        refine NoPanic.normal ?_
                        go_wp2_with fail
                        go_ret
                        first | (obtain ⟨o', ho', hT'⟩ := HT5.out.set' hk (c := 1) (by omega) rfl (sel3 y (-1) 120 (R + 1)); exact ⟨_, o', rfl, JT.more (q' := p + 2000) hT' (by omega), by omega, fun h => absurd (HBO.out h) (by decide)⟩) | (obtain ⟨o', ho', hT'⟩ := (HT5.out.alloc (.cells #[.int .i64 (-1), .int .i64 120, .int .i64 (R + 1)] 3)).set' hk (c := 1) (by omega) rfl (sel3 y (-1) 120 (R + 1)); exact ⟨_, o', rfl, JT.more (q' := p + 2000) hT' (by omega), by omega, fun h => absurd (HBO.out h) (by decide)⟩)
                      exact AllReadyH.nil
                    exact AllReadyH.nil
                  exact AllReadyH.nil
                exact AllReadyH.nil
              exact AllReadyH.nil
            · by_cases e2 : u = 2
              · subst e2
                go_wp2
                go_ret
                obtain ⟨o', ho', hT'⟩ := HT.out.set' hk (c := 2) (by omega) rfl (D + 1)
                exact ⟨_, o', rfl, JT.more (q' := p + 2000) hT' (by omega), by omega, fun h => absurd (HBO.out h) (by decide)⟩
              · by_cases e3 : u = 3
                · subst e3
                  go_wp2_with fail
                  refine (pick_any rb (p + 1504) 2 _ (HT.out.alloc _).rd (by omega)).mono ?_
                  rintro e w5 ⟨y, rfl, y0, y1, _, hg5, hr5⟩
                  have y2 := y1 (by decide)
                  obtain ⟨P, _, hcP⟩ := ints_new (j := y.toNat) [0, 9] hg5 hltw (by simp; omega)
                  have HT5 := Lib.hid ((HT.out.alloc _).pick hg5 hr5)
                  obtain ⟨b0, c0⟩ := HT5.out.cellAt (m := k * 4 + 3) (by omega)
                  clear hg5 hr5 y1 f0 f1 f2 f3 a0 a1 a2 a3
                  go_wp2
                  go_ret
                  obtain ⟨o', ho', hT'⟩ := HT5.out.set' hk (c := 3) (by omega) rfl P
                  exact ⟨_, o', rfl, JT.more (q' := p + 2000) hT' (by omega), by omega, fun h => absurd (HBO.out h) (by decide)⟩
                · have e0' : (u == 0) = false := by simpa using e0
                  have e1' : (u == 1) = false := by simpa using e1
                  have e2' : (u == 2) = false := by simpa using e2
                  have e3' : (u == 3) = false := by simpa using e3
                  clear e0 e1 e2 e3
                  by_cases e4 : u = 4
                  · subst e4
                    go_wp2_with (at_builtin; refine wpList_append_at _ rfl (.tmp 165) (.tmp 170) 24 rfl w.heap.size 41 i0 _ 4 32 Tryd.underlying24 HI.out.1 HI.out.2.1 HI.out.2.2.1 HI.out.2.2.2 rfl (by decide) _ o.length (vals (fJ o) (o.length * 4)) rfl (HT.out.alloc _).ow ⟨w4.heap.size, 0, none⟩ 1 1 [.int .i64 I, .int .i64 R, .int .i64 D, .int .i64 X] rfl rfl (news4 _ _ _ _ _ _) (one4 _ _ _ _) (by unfold maxLen; omega) (by omega) (HT.out.alloc _).gb.size (by decide) ?_; intro v' w' hown' hgrow hpl hnn; have HP := Lib.hid ((HT.out.alloc _).push hown' hgrow); clear hown' hgrow hpl hnn)
                    go_ret
                    exact ⟨_, _, rfl, HP.out.more (by omega), by simp; omega, fun h => absurd (HBO.out h) (by decide)⟩
                  · have e4' : (u == 4) = false := by simpa using e4
                    clear e4 a0 a1 a2 a3 f0 f1 f2 f3
                    go_wp2
                    go_loopg [7] (61 - o.length) (fun m s wr => ∃ (us : List J4) (a : Option Addr) (cap : Nat), us.length + m = 61 ∧ s = .slice a us.length cap ∧ JT rb w wr (p + 1504) s us)
                    case atStart => exact ⟨o, _, _, by omega, rfl, HT.out⟩
                    case round =>
                      clear HT
                      obtain ⟨us, a5, cap5, hm, rfl, hjt⟩ := hrel
                      have HM := Lib.hid hm
                      have HT := Lib.hid hjt
                      have hul : us.length ≤ 61 := by omega
                      clear hm hjt
                      by_cases h60 : us.length ≤ 60
                      · have h60' : (us.length : Int) ≤ 60 := by omega
                        go_wp2_with (at_builtin; refine wpList_append_at _ rfl (.tmp 106) (.tmp 108) 24 rfl w.heap.size 41 i0 _ 4 32 Tryd.underlying24 HI.out.1 HI.out.2.1 HI.out.2.2.1 HI.out.2.2.2 rfl (by decide) _ us.length (vals (fJ us) (us.length * 4)) rfl (HT.out.alloc _).ow ⟨wr.heap.size, 0, none⟩ 1 1 [.int .i64 0, .int .i64 119, .int .i64 120, .int .i64 1] rfl rfl (news4 _ _ _ _ _ _) (one4 _ _ _ _) (by unfold maxLen; omega) (by omega) (HT.out.alloc _).gb.size (by decide) ?_; intro v' w' hown' hgrow hpl hnn; have HP := Lib.hid ((HT.out.alloc _).push hown' hgrow); clear hown' hgrow hpl hnn)
                        obtain ⟨a6, cap6, h6⟩ := HP.out.ow.shape
                        go_roundg (gk - 1)
                        case measure => have := HM.out; omega
                        case rel => exact ⟨_, a6, cap6, by have := HM.out; simp; omega, h6, HP.out⟩
                      · have h60' : ¬ (us.length : Int) ≤ 60 := by omega
                        go_wp2
                        go_ret
                        exact ⟨_, us, rfl, HT.out.more (by omega), by omega, fun h => absurd (HBO.out h) (by decide)⟩
        · have hl0' : ¬ (0 : Int) < o.length := by omega
          go_wp2
          go_ret
          exact ⟨_, o, rfl, HT1.out.more (by omega), by omega, fun _ => HLG.out⟩

end Go.Proofs.YtdhdodmpfbgliaaDoor
