/- Contracts of the program's permutation.inverse, of the comparison that impl.RunFixed hands on, and of impl.RunFixed. Conditions: the slices hold what is said; their lengths are at most 2^40. -/
import Derived.Test.YtlagghoohloklaaFixRun
import Derived.Laws.EntriesVeiled
namespace Go.Proofs.Ytlagghoohloklaa
open Go.RowKit Go.Deep

theorem run_make_permN (n : Nat) (hn : n ≤ 1099511627776) (w : World) :
    (Instr.makeSlice 96 (.int .i64 (n : Int)) (.int .i64 (n : Int))).run Try.prog w = .ok (.slice (some ⟨w.heap.size, 0, none⟩) n n) (w.alloc (.cells (madeCells #[.int .i64 0] n) 3)) := by
  obtain ⟨i, hi, hz, hs, hb⟩ := info_parts intInfo
  have h := run_make (P := Try.prog) w 96 3 i _ Try.underlying96 hi hz .i64 .i64 (n : Int) (n : Int) (by omega) (by omega) (by rw [hb]; omega) (by omega)
  rw [hs] at h
  simpa [Value.cells] using h
/-- The places of the first k tasks of an order. -/
def rkK (os : List Int) (k i : Nat) : Int := if rk os i < k then (rk os i : Nat) else 0
theorem rkK_step {ts : List T3} {os : List Int} (h : ordB ts os = true) {k y : Nat} (hk : k < os.length) (hy : os.getD k 0 = (y : Int)) (i : Nat) (hi : i < ts.length) : (if i = y then (k : Int) else rkK os k i) = rkK os (k + 1) i := by
  have hp := rk_place' h hk hy
  unfold rkK
  by_cases e : i = y
  · subst e
    rw [if_pos rfl, if_pos (by omega), hp]
  · rw [if_neg e]
    have hyl : y < ts.length := by have := ord_at h hk; omega
    have hne : rk os i ≠ k := fun e2 => e (rk_inj h i y hi hyl (e2.trans hp.symm))
    by_cases hl : rk os i < k
    · rw [if_pos hl, if_pos (by omega)]
    · rw [if_neg hl, if_neg (by omega)]

set_option maxHeartbeats 1000000 in
/-- impl.permutation.inverse. -/
theorem inverse_any (oa : Option Addr) (ocap : Nat) (ts : List T3) (os : List Int) (w : World) (ho : IntF w oa os.length fun k => os.getD k 0) (hv : ordB ts os = true) :
    Calls Try.prog 65 #[.slice oa os.length ocap] w fun e w' =>
      (∃ v, e = .returned v ∧ OwnI w' w.heap.size v os.length (fun i => (rk os i : Nat))) ∧ Below w.heap.size w w' := by
  have HO := Lib.hid ho
  have HV := Lib.hid hv
  have HLN := Lib.hid (ordB_iff.1 hv).2.1
  have hn5 : os.length ≤ 5 := by have h1 := ordB_iff.1 hv; have := (sv_all h1.1).2; omega
  clear ho hv
  have hmk := run_make_permN os.length (by omega)
  go_enter Try.func65, Try.ntmps65
  go_wp2
  clear hmk
  go_loopg [11] os.length (fun m i wr => ∃ k : Nat, m + k = os.length ∧ i = .int .i64 k ∧ OwnI wr w.heap.size (.slice (some ⟨w.heap.size, 0, none⟩) os.length os.length) os.length (rkK os k) ∧ Below w.heap.size w wr)
  case atStart => exact ⟨0, rfl, rfl, (rowIs_ownI (World.rowIs_made w (.int .i64 0) os.length 3) (Nat.le_refl _) (by unfold maxLen; omega)).congr (fun j _ => by simp [rkK]), below_box _ _⟩
  case round =>
    obtain ⟨k, hk, rfl, hown, hb⟩ := hrel
    have HK := Lib.hid hk
    have HW := Lib.hid hown
    have hk' : k ≤ os.length := by omega
    clear hk hown
    by_cases hlt : k < os.length
    · obtain ⟨b, off, rfl, hbs, c0⟩ := HO.out.below hb k hlt
      have hyb := ord_at HV.out hlt
      obtain ⟨y, hy⟩ : ∃ y, y = (os.getD k 0).toNat := ⟨_, rfl⟩
      have hy' : os.getD k 0 = (y : Int) := by omega
      have HY := Lib.hid hy'
      simp only [hy'] at c0
      have hyl : y < os.length := by have := HLN.out; omega
      have hy0 : (0 : Int) ≤ y := by omega
      have hy1 : (y : Int) < os.length := by omega
      have hk0 : (0 : Int) ≤ k := by omega
      have hk1 : (k : Int) < os.length := by omega
      have hcell := HW.out.cellAt hyl
      have z0 := hcell.1
      have z1 := hcell.2.1
      clear hy hyb hy' hcell
      go_wp2
      go_roundg (gk - 1)
      case measure => have := HK.out; omega
      case rel => exact ⟨k + 1, by have := HK.out; omega, by go_num, (HW.out.set hyl _).congr (fun j hj => rkK_step HV.out hlt HY.out j (by have := HLN.out; omega)), hb.setCell (Nat.le_refl _) _⟩
    · obtain rfl : k = os.length := by omega
      go_wp2
      go_ret
      exact ⟨⟨_, rfl, HW.out.congr fun j hj => by unfold rkK; rw [if_pos (rk_lt (ord_all HV.out (by have := HLN.out; omega)))]⟩, hb⟩

/-- Orders jobs by place, then by index. -/
def fixK (os : List Int) (js : List J4) : Nat → Nat := fun x => rk os (jid js x) * 64 + x
theorem fixK_lt {os : List Int} {js : List J4} (hn : js.length ≤ 60) {x y : Nat} (hx : x < js.length) (hy : y < js.length) : fixK os js x < fixK os js y ↔ rk os (jid js x) < rk os (jid js y) ∨ (rk os (jid js x) = rk os (jid js y) ∧ x < y) := by
  unfold fixK
  omega

set_option maxRecDepth 100000 in
set_option maxHeartbeats 1000000 in
/-- The comparison of impl.RunFixed: job x comes before job y. -/
theorem beforeF_any (pb cb : Nat) (pa ja : Option Addr) (pcap jcap : Nat) (ts : List T3) (os : List Int) (js : List J4) (x y : Nat) (w : World) (hp : w.cell? ⟨pb, 0, none⟩ = some (.slice pa os.length pcap)) (hc : w.cell? ⟨cb, 0, none⟩ = some (.slice ja js.length jcap)) (hj : RowJ w ja js)
    (hi : IntF w pa os.length fun i => (rk os i : Nat)) (hl : legB ts js = true) (hlen : os.length = ts.length) (hx : x < js.length) (hy : y < js.length) :
    Calls Try.prog 66 #[.int .i64 (x : Int), .int .i64 (y : Int), .pointer (some ⟨pb, 0, none⟩), .pointer (some ⟨cb, 0, none⟩)] w fun e w' =>
      e = .returned (.bool (decide (fixK os js x < fixK os js y))) ∧ Below w.heap.size w w' := by
  have h60 := (legB_iff.1 hl).2.1
  have HK := Lib.hid (fixK_lt (os := os) h60 hx hy)
  obtain ⟨bj, oj, rfl, hbj, x0, _, _, _⟩ := hj x hx
  obtain ⟨bj', oj', e, _, y0, _, _, _⟩ := hj y hy
  simp only [Option.some.injEq, Addr.mk.injEq, and_true] at e
  obtain ⟨rfl, rfl⟩ := e
  have jx := jid_at hl hx
  have jy := jid_at hl hy
  rw [jx.2] at x0
  rw [jy.2] at y0
  obtain ⟨tx, htx⟩ : ∃ t, t = jid js x := ⟨_, rfl⟩
  obtain ⟨ty, hty⟩ : ∃ t, t = jid js y := ⟨_, rfl⟩
  rw [← htx] at x0 jx HK
  rw [← hty] at y0 jy HK
  have ltx : tx < os.length := by omega
  have lty : ty < os.length := by omega
  obtain ⟨bp, op, rfl, hbp, c0⟩ := hi tx ltx
  obtain ⟨bp', op', e, _, d0⟩ := hi ty lty
  simp only [Option.some.injEq, Addr.mk.injEq, and_true] at e
  obtain ⟨rfl, rfl⟩ := e
  obtain ⟨rx, hrx⟩ : ∃ t, t = rk os tx := ⟨_, rfl⟩
  obtain ⟨ry, hry⟩ : ∃ t, t = rk os ty := ⟨_, rfl⟩
  simp only [← hrx] at c0
  simp only [← hry] at d0
  rw [← hrx, ← hry] at HK
  clear hj hi hl htx hty hrx hry jx jy hlen h60
  have hx0 : (0 : Int) ≤ x := by omega
  have hx1 : (x : Int) < js.length := by omega
  have hy0 : (0 : Int) ≤ y := by omega
  have hy1 : (y : Int) < js.length := by omega
  have tx0 : (0 : Int) ≤ tx := by omega
  have tx1 : (tx : Int) < os.length := by omega
  have ty0 : (0 : Int) ≤ ty := by omega
  have ty1 : (ty : Int) < os.length := by omega
  obtain ⟨c1, hc1⟩ : ∃ c, c = cmpI (rx : Int) ry := ⟨_, rfl⟩
  obtain ⟨c2, hc2⟩ : ∃ c, c = cmpI (x : Int) y := ⟨_, rfl⟩
  have C1 := fun W => compare_any (rx : Int) (ry : Int) W
  have C2 := fun W => compare_any (x : Int) (y : Int) W
  rw [← hc1] at C1
  rw [← hc2] at C2
  have HC := Lib.hid (And.intro hc1 hc2)
  clear hc1 hc2
  go_enter Try.func66, Try.ntmps66
  go_wp2
  refine wp_region_still_tail 20 (by kernel_rfl) (by kernel_rfl) ?_
  simp only [List.take_succ_cons, List.take_zero, List.drop_succ_cons, List.drop_zero]
  change wpStill _ _ w.drew (fun a' => wpList _ _ _ _ a' w.drew) _ _
  iterate 16 still_step
  still_call (C1 _)
  iterate 2 still_step
  still_call (C2 _)
  refine wpStill_nil ?_
  generalize hW : w.drew = W
  have HW := Lib.hid hW
  clear hW C1 C2
  go_wp2_with fail
  refine (or_new _ _ _).mono ?_
  rintro e w' ⟨rfl, rfl⟩
  obtain ⟨c3, hc3⟩ : ∃ c, c = orI c1 c2 := ⟨_, rfl⟩
  rw [← hc3]
  have HC3 := Lib.hid hc3
  clear hc3
  go_wp2
  go_ret
  refine ⟨ret_bool ?_, ?_⟩
  · rw [HC3.out, HC.out.1, HC.out.2]
    exact decide_eq_decide.2 ((orI_lt _ _ _ _).trans (by rw [HK.out]; omega))
  · rw [← HW.out]
    exact (Below.refl _ _).drew.alloc (Nat.le_refl _) _

set_option maxRecDepth 100000 in
set_option maxHeartbeats 2000000 in
/-- impl.RunFixed. -/
theorem runFixed_any (a oa ja : Option Addr) (cap ocap jcap : Nat) (ts : List T3) (os : List Int) (js : List J4) (w : World) (hr : Row w a ts) (ho : IntF w oa os.length fun k => os.getD k 0) (hj : RowJ w ja js) (hn : ts.length ≤ 1099511627776) (hjn : js.length ≤ 1099511627776) :
    Calls Try.prog 22 #[.slice a ts.length cap, .slice oa os.length ocap, .slice ja js.length jcap] w fun e w' =>
      FixSched w.heap.size ts os js e w' ∧ Below w.heap.size w w' := by
  obtain ⟨W, hW⟩ : ∃ W, W = (w.alloc (.cells #[.slice ja js.length jcap] 25)).alloc (.cells #[.slice none 0 0, .slice none 0 0] 30) := ⟨_, rfl⟩
  have BW : Below w.heap.size w W := by rw [hW]; exact (below_box _ _).alloc (by simp) _
  have sW : w.heap.size + 1 < W.heap.size := by rw [hW]; simp
  have q0 : W.cell? ⟨w.heap.size, 0, none⟩ = some (.slice ja js.length jcap) := by rw [hW]; simp [go_sem]
  have q1 : W.cell? ⟨w.heap.size + 1, 0, none⟩ = some (.slice none 0 0) := by rw [hW]; simp [go_sem]
  have q2 : W.cell? ⟨w.heap.size + 1, 1, none⟩ = some (.slice none 0 0) := by rw [hW]; simp [go_sem]
  have q3 : W.frozen? ⟨w.heap.size + 1, 0, none⟩ = false := by rw [hW]; simp [go_sem]
  have q4 : W.frozen? ⟨w.heap.size + 1, 1, none⟩ = false := by rw [hW]; simp [go_sem]
  have HR := Lib.hid (hr.below BW)
  have HO := Lib.hid (ho.below BW)
  have HJ := Lib.hid (hj.below BW)
  have HW := Lib.hid hW
  clear hr ho hj hW
  have FIN : ∀ W1, Below W.heap.size W W1 → okF ts os js = false → FixSched w.heap.size ts os js (.returned (.agg #[.slice none 0 0, .slice none 0 0])) ((W1.setCell ⟨w.heap.size + 1, 0, none⟩ (.slice none 0 0)).setCell ⟨w.heap.size + 1, 1, none⟩ (.slice none 0 0)) ∧ Below w.heap.size w ((W1.setCell ⟨w.heap.size + 1, 0, none⟩ (.slice none 0 0)).setCell ⟨w.heap.size + 1, 1, none⟩ (.slice none 0 0)) := fun W1 B1 hk => by
    refine ⟨⟨_, _, rfl, ?_, ?_, Apart.nil _⟩, ((BW.trans (B1.mono BW.size)).setCell (by simp) _).setCell (by simp) _⟩
    · rw [lenRF, if_neg (by rw [hk]; simp)]
      exact OwnI.nil _ _ _
    · rw [lenFF, if_neg (by rw [hk]; simp)]
      exact OwnI.nil _ _ _
  have FIN := Lib.hid FIN
  cases hv : ordB ts os with
  | false =>
    have hk : okF ts os js = false := by rw [okF, hv]; rfl
    go_enter Try.func22, Try.ntmps22
    go_wp2_with fail
    rw [← HW.out]
    refine (orderValid_any _ _ _ _ _ _ _ HR.out HO.out hn).mono ?_
    rintro e w1 ⟨rfl, b1⟩
    rw [hv]
    have x1 := (b1.cell (p := ⟨w.heap.size + 1, 0, none⟩) sW).trans q1
    have x2 := (b1.cell (p := ⟨w.heap.size + 1, 1, none⟩) sW).trans q2
    have x3 := (b1.frozen (p := ⟨w.heap.size + 1, 0, none⟩) sW).trans q3
    have x4 := (b1.frozen (p := ⟨w.heap.size + 1, 1, none⟩) sW).trans q4
    clear q0 q1 q2 q3 q4
    go_wp2
    refine bodyPost_ret (v := .agg #[.slice none 0 0, .slice none 0 0]) ?_ rfl (FIN.out _ b1 hk)
    simp [results, Try.results22, go_sem, x1, x2]
  | true =>
    have HV := Lib.hid hv
    cases hl : legB ts js with
    | false =>
      have hk : okF ts os js = false := by rw [okF, hl, Bool.and_false]
      go_enter Try.func22, Try.ntmps22
      go_wp2_with fail
      rw [← HW.out]
      refine (orderValid_any _ _ _ _ _ _ _ HR.out HO.out hn).mono ?_
      rintro e w1 ⟨rfl, b1⟩
      rw [hv]
      have x0 := (b1.cell (p := ⟨w.heap.size, 0, none⟩) (show w.heap.size < _ by omega)).trans q0
      go_wp2_with fail
      refine (jobsLegal_any _ _ _ _ _ _ _ (HR.out.below b1) (HJ.out.below b1) hn hjn).mono ?_
      rintro e w2 ⟨rfl, b2⟩
      rw [hl]
      have b12 := b1.trans (b2.mono b1.size)
      have x1 := (b12.cell (p := ⟨w.heap.size + 1, 0, none⟩) sW).trans q1
      have x2 := (b12.cell (p := ⟨w.heap.size + 1, 1, none⟩) sW).trans q2
      have x3 := (b12.frozen (p := ⟨w.heap.size + 1, 0, none⟩) sW).trans q3
      have x4 := (b12.frozen (p := ⟨w.heap.size + 1, 1, none⟩) sW).trans q4
      clear q0 q1 q2 q3 q4 x0
      go_wp2
      refine bodyPost_ret (v := .agg #[.slice none 0 0, .slice none 0 0]) ?_ rfl (FIN.out _ b12 hk)
      simp [results, Try.results22, go_sem, x1, x2]
    | true =>
      have HL := Lib.hid hl
      have HK := Lib.hid (okF_iff.2 ⟨hv, hl⟩)
      have h60 := (legB_iff.1 hl).2.1
      have HLN := Lib.hid (ordB_iff.1 hv).2.1
      clear hl hv FIN
      go_enter Try.func22, Try.ntmps22
      go_wp2_with fail
      rw [← HW.out]
      refine (orderValid_any _ _ _ _ _ _ _ HR.out HO.out hn).mono ?_
      rintro e w1 ⟨rfl, b1⟩
      rw [HV.out]
      have x0 := (b1.cell (p := ⟨w.heap.size, 0, none⟩) (show w.heap.size < _ by omega)).trans q0
      go_wp2_with fail
      refine (jobsLegal_any _ _ _ _ _ _ _ (HR.out.below b1) (HJ.out.below b1) hn hjn).mono ?_
      rintro e w2 ⟨rfl, b2⟩
      rw [HL.out]
      have b12 := b1.trans (b2.mono b1.size)
      clear b1 b2 x0
      go_wp2_with fail
      refine (inverse_any _ _ ts os _ (HO.out.below b12) HV.out).mono ?_
      rintro e w3 ⟨⟨v, rfl, hov⟩, b3⟩
      obtain ⟨pa, pcap, rfl⟩ := own_shape hov
      have b13 := b12.trans (b3.mono b12.size)
      obtain ⟨w4, hw4⟩ : ∃ w4, w4 = w3.alloc (.cells #[.slice pa os.length pcap] 96) := ⟨_, rfl⟩
      have b4 : Below w3.heap.size w3 w4 := by rw [hw4]; exact below_box _ _
      have p0 : w4.cell? ⟨w3.heap.size, 0, none⟩ = some (.slice pa os.length pcap) := by rw [hw4]; simp [go_sem]
      have b14 := b13.trans (b4.mono b13.size)
      have IP := Lib.hid ((hov.intF').below b4)
      have s4 : w3.heap.size < w4.heap.size := by rw [hw4]; simp
      have x0 := (b13.cell (p := ⟨w.heap.size, 0, none⟩) (show w.heap.size < _ by omega)).trans q0
      have z0 := (b14.cell (p := ⟨w.heap.size, 0, none⟩) (show w.heap.size < _ by omega)).trans q0
      have z0u : (w3.alloc (.cells #[.slice pa os.length pcap] 96)).cell? ⟨w.heap.size, 0, none⟩ = some (.slice ja js.length jcap) := by rw [← hw4]; exact z0
      have J4 := Lib.hid (HJ.out.below b14)
      have HW4 := Lib.hid hw4
      have s14 := b14.size
      have hcb : w.heap.size < w4.heap.size := by omega
      have hne : ¬ w.heap.size = w3.heap.size := by have := b13.size; omega
      clear hov b12 b3 hw4 x0
      go_wp2_with fail
      rw [← HW4.out]
      clear z0u
      have hCmp : Cmp w4 (.func (.func 66) #[] #[.pointer (some ⟨w3.heap.size, 0, none⟩), .pointer (some ⟨w.heap.size, 0, none⟩)]) ja jcap js (fixK os js) := ⟨J4.out, .inr ⟨w3.heap.size, w.heap.size, rfl, fun V x y hB hx hy =>
        beforeF_any w3.heap.size w.heap.size pa ja pcap jcap ts os js x y V ((hB.cell (p := ⟨w3.heap.size, 0, none⟩) s4).trans p0) ((hB.cell (p := ⟨w.heap.size, 0, none⟩) hcb).trans z0) (J4.out.below hB) (IP.out.below hB) HL.out HLN.out hx hy⟩⟩
      refine (simulated_any ja jcap (.func (.func 66) #[] #[.pointer (some ⟨w3.heap.size, 0, none⟩), .pointer (some ⟨w.heap.size, 0, none⟩)]) js (fxP os js) (fixK os js) w4 hCmp (fx_fits HL.out os) (fx_ex HL.out os) h60 (fun i j h1 h2 => leg_rel HL.out h1 h2) (fun x y hx hy => fixK_lt h60 hx hy)).mono ?_
      rintro e w5 ⟨⟨vr, vf, rfl, o1, o2, ap⟩, b5⟩
      have b15 := b14.trans (b5.mono b14.size)
      have y1 := (b15.cell (p := ⟨w.heap.size + 1, 0, none⟩) sW).trans q1
      have y2 := (b15.cell (p := ⟨w.heap.size + 1, 1, none⟩) sW).trans q2
      have y3 := (b15.frozen (p := ⟨w.heap.size + 1, 0, none⟩) sW).trans q3
      have y4 := (b15.frozen (p := ⟨w.heap.size + 1, 1, none⟩) sW).trans q4
      obtain ⟨ar, capr, rfl⟩ := own_shape o1
      obtain ⟨af, capf, rfl⟩ := own_shape o2
      have BB := Lib.hid (BW.trans (b15.mono BW.size))
      have O := Lib.hid (And.intro o1 (And.intro o2 ap))
      clear o1 o2 ap z0 p0 q0 q1 q2 q3 q4 hCmp b5 b15 b14 b13 b4
      go_wp2
      refine bodyPost_ret (v := .agg #[.slice ar 120 capr, .slice af js.length capf]) ?_ rfl ⟨⟨_, _, rfl, ?_, ?_, O.out.2.2⟩, (BB.out.setCell (by simp) _).setCell (by simp) _⟩
      · simp [results, Try.results22, go_sem, y1, y2]
      · rw [lenRF, if_pos HK.out]
        exact ((O.out.1.other fun e => by have := (O.out.1.lt _ e).1; simp at this; omega).other fun e => by have := (O.out.1.lt _ e).1; simp at this; omega).mono (by omega)
      · rw [lenFF, if_pos HK.out]
        exact ((O.out.2.1.other fun e => by have := (O.out.2.1.lt _ e).1; simp at this; omega).other fun e => by have := (O.out.2.1.lt _ e).1; simp at this; omega).mono (by omega)

end Go.Proofs.Ytlagghoohloklaa
