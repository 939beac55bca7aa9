/- The walk of laws.FnResourcesMutex, for whatever code. Condition: the argument is a slice of bytes. -/
import Derived.Test.YtlagghoohloklaaResRunB
import Derived.Test.YtlagghoohloklaaSame
import Derived.Test.YtlagghoohloklaaLawHas
namespace Go.Proofs.Ytlagghoohloklaa
open Go.RowKit Go.Deep

/-- The resources that the first jobs hold. -/
def hldL (S : Srp) (l : Nat → Nat) : Nat → List Int
  | 0 => []
  | i + 1 => if S.held l i then hldL S l i ++ [((S.res i : Nat) : Int)] else hldL S l i
theorem hldL_len (S : Srp) (l : Nat → Nat) : ∀ i, (hldL S l i).length ≤ i
  | 0 => Nat.le_refl _
  | i + 1 => by
    have := hldL_len S l i
    simp only [hldL]
    split
    · simp; omega
    · omega
theorem hldL_mem {S : Srp} {l : Nat → Nat} {x : Int} : ∀ {i : Nat}, x ∈ hldL S l i → ∃ j, j < i ∧ S.held l j ∧ x = ((S.res j : Nat) : Int)
  | 0, h => by simp [hldL] at h
  | i + 1, h => by
    simp only [hldL] at h
    split at h
    · rename_i hh
      rcases List.mem_append.1 h with h | h
      · obtain ⟨j, h1, h2⟩ := hldL_mem h
        exact ⟨j, by omega, h2⟩
      · exact ⟨i, by omega, hh, by simpa using h⟩
    · obtain ⟨j, h1, h2⟩ := hldL_mem h
      exact ⟨j, by omega, h2⟩
theorem hld_no {S : Srp} (ho : S.Ok) {t i : Nat} (hi : i < S.n) (h : S.held (S.gen.left t) i) : hasB (hldL S (S.gen.left t) i) ((S.res i : Nat) : Int) = false := decide_eq_false fun hm => by
  obtain ⟨j, hj, h2, e⟩ := hldL_mem hm
  exact Srp.mutex ho (show j < S.n by omega) hi (by omega) h2 h (by omega)
theorem PS.fst {w wr : World} {a b : It} (h : PS w wr [a, b]) : PS w wr [a] := by
  have hg : ∀ (j : Nat) (i : It), ([a] : List It)[j]? = some i → ([a, b] : List It)[j]? = some i := fun j i hj => by
    match j, hj with
    | 0, hj => exact hj
    | j + 1, hj => simp at hj
  exact ⟨h.be, fun j i hj => h.pl.ow j i (hg j i hj), fun j k x y hne hj hk => h.pl.ap j k x y hne (hg j x hj) (hg k y hk)⟩
theorem push_at (H : List Int) (x : Int) : (∀ k, k < H.length → H.getD k 0 = (H ++ [x]).getD k 0) ∧ (H ++ [x]).getD H.length 0 = x :=
  ⟨fun k hk => by simp [List.getD, List.getElem?_append_left hk], by simp [List.getD]⟩
set_option maxRecDepth 100000 in
set_option maxHeartbeats 8000000 in
/-- laws.FnResourcesMutex. -/
theorem fnResourcesMutex_walk (a : Option Addr) (len cap : Nat) (w : World) (hb : Byts w a len cap) :
    Calls Try.prog 4 #[.slice a len cap] w fun e w' => e = .returned (.bool true) ∧ Below w.heap.size w w' := by
  have hm : cap ≤ maxLen := hb.2.2
  have hlc : len ≤ cap := hb.2.1
  unfold maxLen at hm
  have HB := Lib.hid hb
  clear hb
  by_cases hl : 1048576 < len
  · have hl' : (1048576 : Int) < len := by omega
    go_enter Try.func4, Try.ntmps4
    go_wp2
    go_ret
    exact ⟨rfl, Below.refl _ _⟩
  have hl' : ¬ (1048576 : Int) < len := by omega
  go_enter Try.func4, Try.ntmps4
  go_wp2_with fail
  refine (drawRunResources_any _ _ _ _ HB.out).mono ?_
  rintro e w1 ⟨g, cap1, sg, scap, jcap, ja, ts, ss, js, rfl, hn, hlc1, hcm1, hsn, hst, hjn, hr1, hos, hoj, b1⟩
  have R1 := Lib.hid hr1
  have OJ1 := Lib.hid hoj
  have RJ1 := Lib.hid hoj.rowJ
  have OS1 := Lib.hid hos
  have RS1 := Lib.hid hos.row
  have STB := Lib.hid hst
  clear hr1 hoj hos hst HB
  go_wp2_with fail
  refine (runResources_any _ _ _ _ _ _ ts ss js _ R1.out RS1.out RJ1.out STB.out (by omega) (by omega) (by omega)).mono ?_
  rintro e w2 ⟨⟨vr, vf, rfl, o1, o2, ap⟩, b2⟩
  obtain ⟨ra, rc, rfl⟩ := own_shape o1
  obtain ⟨fa, fc, rfl⟩ := own_shape o2
  have B2 : Below w.heap.size w w2 := b1.trans (b2.mono b1.size)
  have hs1 := b1.size
  have hs2 := b2.size
  obtain ⟨LR, hLR⟩ : ∃ LR, LR = lenRR ts ss js := ⟨_, rfl⟩
  obtain ⟨LF, hLF⟩ : ∃ LF, LF = lenFR ts ss js := ⟨_, rfl⟩
  rw [← hLR] at o1
  rw [← hLF] at o2
  have hlr : LR ≤ 120 := by rw [hLR, lenRR]; split <;> omega
  have hlf : LF ≤ 61 := by rw [hLF, lenFR]; split <;> omega
  have HLR := Lib.hid hLR
  have HLF := Lib.hid hLF
  rw [← hLR, ← hLF]
  have O1 := Lib.hid o1
  have O2 := Lib.hid o2
  have AP := Lib.hid ap
  clear hLR hLF o1 o2 ap
  go_wp2
  have X := fun o => (b2.trans ((below_box w2 o).mono hs2)).drew
  have R3 := Lib.hid fun o => R1.out.below (X o)
  have RJ3 := Lib.hid fun o => RJ1.out.below (X o)
  have RS3 := Lib.hid fun o => RS1.out.below (X o)
  have P1 := Lib.hid fun o => (O1.out.alloc o).drew
  have P2 := Lib.hid fun o => (O2.out.alloc o).drew
  have BX := Lib.hid fun o => (B2.trans ((below_box w2 o).mono (Nat.le_trans hs1 hs2))).drew
  clear X
  refine wp_region_noPanic ?_
  refine wp_region_held_drew (S := fun w' => w'.cell? ⟨w2.heap.size, 0, none⟩ = some (.slice ra LR rc) ∧ w'.cell? ⟨w2.heap.size, 1, none⟩ = some (.slice fa LF fc)) (by kernel_rfl) ?_ (fun hHeld => ?_)
  · (try dsimp only)
    (first | exact ⟨by simp [go_sem], by simp [go_sem]⟩ | exact ⟨(HB4.out.cell (p := ⟨w2.heap.size, 0, none⟩) (by simp)).trans hHeld.1, (HB4.out.cell (p := ⟨w2.heap.size, 1, none⟩) (by simp)).trans hHeld.2⟩ | exact ⟨(HB5.out.cell (p := ⟨w2.heap.size, 0, none⟩) (by have := HB4.out.size; simp at this; simp; omega)).trans hHeld.1, (HB5.out.cell (p := ⟨w2.heap.size, 1, none⟩) (by have := HB4.out.size; simp at this; simp; omega)).trans hHeld.2⟩)
  refine wpAnyH_take (i := 0) (v := ?_) (toArr_get _ 0 _ rfl) (by kernel_rfl) (by kernel_rfl) (by kernel_rfl) (fun _ _ _ h => h) (Or.inl ⟨by rfl, ?_⟩) (by assumption) ?_
  rotate_left
  · (intro w hSw; (try dsimp only at hSw); go_simp; (try with_reducible rfl))
  (try simp only [Act.put, List.setIfInBounds_toArray, List.set_cons_zero, List.set_cons_succ])
  refine wpAnyH_take (i := 1) (v := ?_) (toArr_get _ 1 _ rfl) (by kernel_rfl) (by kernel_rfl) (by kernel_rfl) (fun _ _ _ h => h) (Or.inl ⟨by rfl, ?_⟩) (by assumption) ?_
  rotate_left
  · (intro w hSw; (try dsimp only at hSw); go_simp; (try with_reducible rfl))
  (try simp only [Act.put, List.setIfInBounds_toArray, List.set_cons_zero, List.set_cons_succ])
  refine wpAnyH_take (i := 2) (v := ?_) (toArr_get _ 2 _ rfl) (by kernel_rfl) (by kernel_rfl) (by kernel_rfl) (fun _ _ _ h => h) (Or.inl ⟨by rfl, ?_⟩) (by assumption) ?_
  rotate_left
  · (intro w hSw; (try dsimp only at hSw); go_simp; (try with_reducible rfl))
  (try simp only [Act.put, List.setIfInBounds_toArray, List.set_cons_zero, List.set_cons_succ])
  refine wpAnyH_take (i := 3) (v := ?_) (toArr_get _ 3 _ rfl) (by kernel_rfl) (by kernel_rfl) (by kernel_rfl) (fun _ _ _ h => h) (Or.inl ⟨by rfl, ?_⟩) (by assumption) ?_
  rotate_left
  · (intro w hSw; (try dsimp only at hSw); go_simp; (try with_reducible rfl))
  (try simp only [Act.put, List.setIfInBounds_toArray, List.set_cons_zero, List.set_cons_succ])
  refine wpAnyH_ready (rs := [4]) (by kernel_rfl) (by simp) ?_
  refine AllReadyH.cons (toArr_get _ 4 _ rfl) (fun K hK => ?_) ?_
  · go_simp
    refine (specRunResources_any _ _ _ _ _ _ ts ss js _ (R3.out _) (RS3.out _) (RJ3.out _) (by omega) (by omega) (by omega)).mono ?_
    rintro e w4 ⟨⟨vr', vf', rfl, p1, p2, _⟩, b4⟩
    obtain ⟨ra', rc', rfl⟩ := own_shape p1
    obtain ⟨fa', fc', rfl⟩ := own_shape p2
    rw [← HLR.out] at p1
    rw [← HLF.out] at p2
    rw [← HLR.out, ← HLF.out]
    have I1 := Lib.hid (((P1.out _).below b4).intF')
    have I2 := Lib.hid (((P2.out _).below b4).intF')
    have I3 := Lib.hid p1.intF'
    have I4 := Lib.hid p2.intF'
    have HB4 := Lib.hid b4
    clear p1 p2 b4
    go_wp2_with fail
    refine hK.out _ _ ?_ (fun hHeld2 => ?_)
    · (try dsimp only)
      (first | exact ⟨by simp [go_sem], by simp [go_sem]⟩ | exact ⟨(HB4.out.cell (p := ⟨w2.heap.size, 0, none⟩) (by simp)).trans hHeld.1, (HB4.out.cell (p := ⟨w2.heap.size, 1, none⟩) (by simp)).trans hHeld.2⟩ | exact ⟨(HB5.out.cell (p := ⟨w2.heap.size, 0, none⟩) (by have := HB4.out.size; simp at this; simp; omega)).trans hHeld.1, (HB5.out.cell (p := ⟨w2.heap.size, 1, none⟩) (by have := HB4.out.size; simp at this; simp; omega)).trans hHeld.2⟩)
    clear hK K hHeld
    have hHeld := hHeld2
    clear hHeld2
    (try simp only [Act.put, List.setIfInBounds_toArray, List.set_cons_zero, List.set_cons_succ])
    refine wpAnyH_ready (rs := [5]) (by kernel_rfl) (by simp) ?_
    refine AllReadyH.cons (toArr_get _ 5 _ rfl) (fun K hK => ?_) ?_
    · go_simp
      refine (sameSchedule_same _ _ _ _ _ _ _ _ _ _ (srpF ts ss js) (srpFin ts ss js) _ I1.out I2.out I3.out I4.out (by omega) (by omega)).mono ?_
      rintro e w5 ⟨rfl, b5⟩
      have HB5 := Lib.hid b5
      clear b5 I1 I2 I3 I4
      go_wp2_with fail
      refine hK.out _ _ ?_ (fun hHeld2 => ?_)
      · (try dsimp only)
        (first | exact ⟨by simp [go_sem], by simp [go_sem]⟩ | exact ⟨(HB4.out.cell (p := ⟨w2.heap.size, 0, none⟩) (by simp)).trans hHeld.1, (HB4.out.cell (p := ⟨w2.heap.size, 1, none⟩) (by simp)).trans hHeld.2⟩ | exact ⟨(HB5.out.cell (p := ⟨w2.heap.size, 0, none⟩) (by have := HB4.out.size; simp at this; simp; omega)).trans hHeld.1, (HB5.out.cell (p := ⟨w2.heap.size, 1, none⟩) (by have := HB4.out.size; simp at this; simp; omega)).trans hHeld.2⟩)
      clear hK K hHeld
      have hHeld := hHeld2
      clear hHeld2
      (try simp only [Act.put, List.setIfInBounds_toArray, List.set_cons_zero, List.set_cons_succ])
      refine wpAnyH_take (i := 6) (v := ?_) (toArr_get _ 6 _ rfl) (by kernel_rfl) (by kernel_rfl) (by kernel_rfl) (fun _ _ _ h => h) (Or.inl ⟨by rfl, ?_⟩) (by assumption) ?_
      rotate_left
      · (intro w hSw; (try dsimp only at hSw); go_simp; (try with_reducible rfl))
      (try simp only [Act.put, List.setIfInBounds_toArray, List.set_cons_zero, List.set_cons_succ])
      refine wpAnyH_done (by kernel_rfl) ?_ _
      refine NoPanic.normal ?_
      have B4 : Below w2.heap.size w2 w5 := ((below_box w2 _).drew.trans ((HB4.out.trans (HB5.out.mono HB4.out.size)).mono (by simp)))
      have hs4 := HB4.out.size
      have hs5 := HB5.out.size
      simp at hs4
      have B5 : Below w.heap.size w w5 := B2.trans (B4.mono (Nat.le_trans hs1 hs2))
      have O15 := Lib.hid (O1.out.below B4)
      have O25 := Lib.hid (O2.out.below B4)
      have R5 := Lib.hid (R1.out.below (b2.trans (B4.mono hs2)))
      have RS5 := Lib.hid (RS1.out.below (b2.trans (B4.mono hs2)))
      have OJ5 := Lib.hid (OJ1.out.below (b2.trans (B4.mono hs2)))
      have RJ5 := Lib.hid OJ5.out.rowJ
      have sz5 : w2.heap.size < w5.heap.size := by omega
      obtain ⟨s0, s1⟩ := hHeld
      clear R1 RJ1 RS1 OS1 OJ1 O1 O2 R3 RJ3 RS3 P1 P2 BX HB4 HB5 B4 B2 b1 b2 hs4 hs5
      by_cases hok : okR ts ss js = true
      · have hlf2 : LF = js.length := by rw [HLF.out, lenFR, if_pos hok]
        have hlr2 : LR = 120 := by rw [HLR.out, lenRR, if_pos hok]
        have HLEG := Lib.hid (okR_iff.1 hok).2
        have HSC := Lib.hid (okR_iff.1 hok).1
        have HSO := Lib.hid (srp_ok hok)
        have h60 := (legB_iff.1 (okR_iff.1 hok).2).2.1
        clear hok HLR HLF
        subst hlf2
        subst hlr2
        have hmk := run_make_ints js.length (by omega)
        obtain ⟨gr, rfl⟩ := own_some' O15.out (by omega)
        have PD := Lib.hid ((PS.start w5).addN (below_box w5 (.cells (madeCells #[.int .i64 0] js.length) 3)) (made_own w5 js.length (dnF (srpP ts ss js).gen 0) (by unfold maxLen; omega) (fun k _ => by unfold dnF; rw [show (srpP ts ss js).gen.left 0 k = (srpP ts ss js).gen.ex k from rfl, Nat.sub_self]; rfl)))
        obtain ⟨D, hD⟩ : ∃ D, D = w5.heap.size := ⟨_, rfl⟩
        have I5 := Lib.hid O15.out.intF'
        have O1b := Lib.hid (O15.out.lt gr rfl).2
        obtain ⟨iI, hi, hz, hsz, hby⟩ := info_parts intInfo
        have HI := Lib.hid (And.intro hi (And.intro hz (And.intro hsz hby)))
        clear s1 R5 O15 O25 OJ5 hi hz hsz hby
        go_wp2
        rw [← hD] at PD ⊢
        have HD := Lib.hid hD
        clear hD
        go_loopg [8] 120 (fun q z wr => ∃ t : Nat, q + t = 120 ∧ z = .int .i64 t ∧ PS w5 wr [itN (.slice (some ⟨D, 0, none⟩) js.length js.length) js.length (dnF (srpP ts ss js).gen t)])
        case atStart => exact ⟨0, rfl, rfl, PD.out⟩
        case round =>
          obtain ⟨t, hq, rfl, hP⟩ := hrel
          obtain ⟨GG, hGG⟩ : ∃ GG, GG = gk := ⟨_, rfl⟩
          have HGG := Lib.hid hGG
          have HQ := Lib.hid hq
          have HP := Lib.hid hP
          have htt : t ≤ 120 := by omega
          clear hq hP PD hGG
          have t0 := (HP.out.be.cell (p := ⟨w2.heap.size, 0, none⟩) sz5).trans s0
          by_cases hlt : t < 120
          · have hlt' : (t : Int) < 120 := by omega
            have ht0 : (0 : Int) ≤ t := by omega
            obtain ⟨b', o', e', -, z0'⟩ := I5.out t hlt
            simp only [Option.some.injEq, Addr.mk.injEq, and_true] at e'
            obtain ⟨rfl, rfl⟩ := e'
            rw [Nat.zero_add] at z0'
            have z0 := (HP.out.be.cell (p := ⟨gr, t, none⟩) (by have h1 := O1b.out; simp; omega)).trans z0'
            clear z0'
            cases hrun : (srpP ts ss js).gen.run t with
            | none =>
              have hrk : srpF ts ss js t = -1 := by unfold srpF; rw [hrun]; rfl
              have HPW := Lib.hid (HP.out.congrN (j := 0) (f' := dnF (srpP ts ss js).gen (t + 1)) rfl (fun i _ => by unfold dnF; rw [Gen.left_succ, if_neg (by rw [hrun]; simp)]))
              rw [hrk] at z0
              clear hrun hrk
              go_wp2
              clear t0 z0 HP
              go_loopg [9, 10] js.length (fun q x y wr2 => ∃ (i : Nat), q + i = js.length ∧ y = .int .i64 i ∧ PS w5 wr2 [itN (.slice (some ⟨D, 0, none⟩) js.length js.length) js.length (dnF (srpP ts ss js).gen (t + 1)), itN x (hldL (srpP ts ss js) ((srpP ts ss js).gen.left (t + 1)) i).length (fun k => (hldL (srpP ts ss js) ((srpP ts ss js).gen.left (t + 1)) i).getD k 0)])
              case atStart => exact ⟨0, by omega, rfl, HPW.out.addN (below_box _ _) (OwnI.empty _ _)⟩
              case round =>
                obtain ⟨i, hi, rfl, hP⟩ := hrel
                have HI2 := Lib.hid hi
                have HP := Lib.hid hP
                have hii : i ≤ js.length := by omega
                have hml := hldL_len (srpP ts ss js) ((srpP ts ss js).gen.left (t + 1)) i
                obtain ⟨ha, hc, rfl⟩ := own_shape (hP.getN (j := 1) rfl)
                clear hi hP HPW
                by_cases hin : i < js.length
                · have hi0 : (0 : Int) ≤ i := by omega
                  have hi1 : (i : Int) < js.length := by omega
                  have hnat := leg_nat HLEG.out hin
                  have hsec := sc_nat HSC.out hnat.1
                  have hids : jid js i < ss.length := by have := (scB_iff.1 HSC.out).2.1; have := hnat.1; omega
                  obtain ⟨bj, oj, ej, hbj, x0, -, -, x3⟩ := (RJ5.out.below HP.out.be) i hin
                  obtain ⟨bs, os, es, hbs, y0, y1, y2⟩ := (RS5.out.below HP.out.be).tk hids
                  simp only [Option.some.injEq, Addr.mk.injEq, and_true] at es
                  obtain ⟨rfl, rfl⟩ := es
                  subst ej
                  rw [hnat.2.2.2.2.2.1] at x0
                  rw [hnat.2.2.2.2.2.2.2.2] at x3
                  rw [hsec.1] at y0
                  rw [hsec.2.1] at y1
                  rw [hsec.2.2.1] at y2
                  simp only [Nat.zero_add] at y0 y1 y2
                  have hle := (srpP ts ss js).gen.left_ex (t + 1) i
                  have z1 := (HP.out.atN (j := 0) (k := i) rfl hin).1
                  have hzd := (HP.out.atN (j := 0) (k := i) rfl hin).2.2.1
                  have hd : dnF (srpP ts ss js).gen (t + 1) i = ((jex js i - (srpP ts ss js).gen.left (t + 1) i : Nat) : Int) := rfl
                  rw [hd] at z1
                  have HSTEP := Lib.hid (show hldL (srpP ts ss js) ((srpP ts ss js).gen.left (t + 1)) (i + 1) = if (srpP ts ss js).held ((srpP ts ss js).gen.left (t + 1)) i then hldL (srpP ts ss js) ((srpP ts ss js).gen.left (t + 1)) i ++ [((srs ss (jid js i) : Nat) : Int)] else hldL (srpP ts ss js) ((srpP ts ss js).gen.left (t + 1)) i from rfl)
                  have HHELD := Lib.hid (show (srpP ts ss js).held ((srpP ts ss js).gen.left (t + 1)) i ↔ (0 < sln ss (jid js i) ∧ sst ss (jid js i) < jex js i - (srpP ts ss js).gen.left (t + 1) i ∧ jex js i - (srpP ts ss js).gen.left (t + 1) i < sst ss (jid js i) + sln ss (jid js i) ∧ jex js i - (srpP ts ss js).gen.left (t + 1) i < jex js i) by
                    have hx1 := hnat.2.2.1
                    unfold Srp.held
                    show 0 < sln ss (jid js i) ∧ sst ss (jid js i) < jex js i - (srpP ts ss js).gen.left (t + 1) i ∧ jex js i - (srpP ts ss js).gen.left (t + 1) i < sst ss (jid js i) + sln ss (jid js i) ∧ 0 < (srpP ts ss js).gen.left (t + 1) i ↔ _
                    omega)
                  have HNO := Lib.hid (fun h => hld_no HSO.out (S := srpP ts ss js) (t := t + 1) (i := i) hin h)
                  have hres : (srpP ts ss js).res i = srs ss (jid js i) := rfl
                  rw [hres] at HNO
                  obtain ⟨H, hH⟩ : ∃ H, H = hldL (srpP ts ss js) ((srpP ts ss js).gen.left (t + 1)) i := ⟨_, rfl⟩
                  rw [← hH] at HSTEP HNO HP hml ⊢
                  obtain ⟨I, hI⟩ : ∃ I, I = jid js i := ⟨_, rfl⟩
                  rw [← hI] at x0 y0 y1 y2 HSTEP HHELD HNO hids hsec
                  obtain ⟨X, hX⟩ : ∃ X, X = jex js i := ⟨_, rfl⟩
                  obtain ⟨T, hT⟩ : ∃ T, T = sst ss I := ⟨_, rfl⟩
                  obtain ⟨L, hL⟩ : ∃ L, L = sln ss I := ⟨_, rfl⟩
                  obtain ⟨S, hS⟩ : ∃ S, S = srs ss I := ⟨_, rfl⟩
                  obtain ⟨N, hN⟩ : ∃ N, N = jex js i - (srpP ts ss js).gen.left (t + 1) i := ⟨_, rfl⟩
                  have hT8 : T ≤ 8 := by omega
                  have hL8 : L ≤ 8 := by omega
                  have hX8 : X ≤ 8 := by have := tv_bd (tk_sv (legB_iff.1 HLEG.out).1 hnat.1); have := hnat.2.2.2.1; omega
                  have hNX : N ≤ X := by omega
                  rw [← hN] at z1 HHELD
                  rw [← hX] at x3 HHELD
                  rw [← hT] at y0 HHELD
                  rw [← hL] at y1 HHELD
                  rw [← hS] at y2 HSTEP HNO
                  have hI0 : (0 : Int) ≤ I := by omega
                  have hI1 : (I : Int) < ss.length := by omega
                  clear hnat hsec hI hX hT hL hS hN hle hd hres hH
                  have HB := Lib.hid (HP.out.alloc (.cells #[.int .i64 (T : Int), .int .i64 (L : Int), .int .i64 (S : Int)] 39))
                  have b2 := below_box wr (.cells #[.int .i64 (T : Int), .int .i64 (L : Int), .int .i64 (S : Int)] 39)
                  obtain ⟨W2, hW2⟩ : ∃ W2, W2 = wr.alloc (.cells #[.int .i64 (T : Int), .int .i64 (L : Int), .int .i64 (S : Int)] 39) := ⟨_, rfl⟩
                  rw [← hW2] at HB b2
                  have u0 : W2.cell? ⟨wr.heap.size, 0, none⟩ = some (.int .i64 (T : Int)) := by rw [hW2]; go_simp
                  have u1 : W2.cell? ⟨wr.heap.size, 1, none⟩ = some (.int .i64 (L : Int)) := by rw [hW2]; go_simp
                  have u2 : W2.cell? ⟨wr.heap.size, 2, none⟩ = some (.int .i64 (S : Int)) := by rw [hW2]; go_simp
                  have HW2 := Lib.hid hW2
                  have v3 := (b2.cell (p := ⟨bj, oj + i * 4 + 3, none⟩) hbj).trans x3
                  have v1 := (b2.cell (p := ⟨D, i, none⟩) hzd).trans z1
                  clear hW2
                  go_wp2
                  rw [← HW2.out]
                  clear b2 x0 x3 y0 y1 y2 z1 HW2 HP
                  by_cases c1 : 0 < L
                  · have hq1 : decide (0 < L) = true := decide_eq_true c1
                    by_cases c2 : T < N
                    · have hq2 : decide (T < N) = true := decide_eq_true c2
                      by_cases c3 : N < T + L
                      · have hq3 : decide (N < T + L) = true := decide_eq_true c3
                        have hq3' : decide ((N : Int) < (T : Int) + (L : Int)) = true := decide_eq_true (by omega)
                        by_cases c4 : N < X
                        · have hq4 : decide (N < X) = true := decide_eq_true c4
                          have HH := Lib.hid (HHELD.out.2 ⟨c1, c2, c3, c4⟩)
                          have hno := HNO.out HH.out
                          have HE := Lib.hid (show hldL (srpP ts ss js) ((srpP ts ss js).gen.left (t + 1)) (i + 1) = H ++ [(S : Int)] by rw [HSTEP.out, if_pos HH.out])
                          have HNO2 := Lib.hid hno
                          have HPU := Lib.hid (push_at H (S : Int))
                          clear hno c1 c2 c3 c4 HHELD HSTEP HNO HH
                          go_quiet (fail)
                          have HB2 := Lib.hid (HB.out.below (below_drewN W2 nq))
                          clear hq1 hq2 hq3 hq3' hq4
                          go_wp2_with fail
                          refine (lawHas_any ha hc H (S : Int) _ (HB2.out.getN (j := 1) rfl).intF' (by omega)).mono ?_
                          rintro e w7 ⟨rfl, rfl⟩
                          rw [HNO2.out]
                          go_wp2_with (at_builtin; refine wpList_append_at _ rfl (.tmp 121) (.tmp 124) 28 rfl w5.heap.size 3 iI _ 1 8 Try.underlying28 HI.out.1 HI.out.2.1 HI.out.2.2.1 HI.out.2.2.2 rfl (by decide) _ H.length (vals (fun k => H.getD k 0) H.length) rfl ((HB2.out.alloc _).getN (j := 1) rfl) ⟨(W2.drewN nq).heap.size, 0, none⟩ 1 1 [.int .i64 (S : Int)] rfl rfl (news1 _ _ _) (one1 _) (by unfold maxLen; omega) (by omega) (HB2.out.alloc _).sz (by decide) ?_; intro v5 u5 ho1 hg1 hp1 hn1; have L4 := Lib.hid ((HB2.out.alloc _).pushN (j := 1) (f' := fun k => (H ++ [(S : Int)]).getD k 0) rfl ho1 HPU.out.1 HPU.out.2 hg1 hp1); obtain ⟨a1, cc1, rfl⟩ := own_shape ho1; clear ho1 hg1 hp1 hn1)
                          go_roundg (gk - 1)
                          case measure => have := HI2.out; omega
                          case rel => exact ⟨i + 1, by have := HI2.out; omega, by go_num, by rw [HE.out, List.length_append]; exact L4.out⟩
                        · have hq4 : decide (N < X) = false := decide_eq_false c4
                          have HE := Lib.hid (show hldL (srpP ts ss js) ((srpP ts ss js).gen.left (t + 1)) (i + 1) = H by rw [HSTEP.out, if_neg (fun h => c4 (HHELD.out.1 h).2.2.2)])
                          clear HHELD HSTEP HNO
                          (try clear c1)
                          (try clear c2)
                          (try clear c3)
                          (try clear c4)
                          go_quiet (fail)
                          have HB2 := Lib.hid (HB.out.below (below_drewN W2 nq))
                          go_wp2
                          go_roundg (gk - 1)
                          case measure => have := HI2.out; omega
                          case rel => exact ⟨i + 1, by have := HI2.out; omega, by go_num, by rw [HE.out]; exact HB2.out⟩
                      · have hq3 : decide (N < T + L) = false := decide_eq_false c3
                        have hq3' : decide ((N : Int) < (T : Int) + (L : Int)) = false := decide_eq_false (by omega)
                        have HE := Lib.hid (show hldL (srpP ts ss js) ((srpP ts ss js).gen.left (t + 1)) (i + 1) = H by rw [HSTEP.out, if_neg (fun h => c3 (HHELD.out.1 h).2.2.1)])
                        clear HHELD HSTEP HNO
                        (try clear c1)
                        (try clear c2)
                        (try clear c3)
                        (try clear c4)
                        go_quiet (fail)
                        have HB2 := Lib.hid (HB.out.below (below_drewN W2 nq))
                        go_wp2
                        go_roundg (gk - 1)
                        case measure => have := HI2.out; omega
                        case rel => exact ⟨i + 1, by have := HI2.out; omega, by go_num, by rw [HE.out]; exact HB2.out⟩
                    · have hq2 : decide (T < N) = false := decide_eq_false c2
                      have HE := Lib.hid (show hldL (srpP ts ss js) ((srpP ts ss js).gen.left (t + 1)) (i + 1) = H by rw [HSTEP.out, if_neg (fun h => c2 (HHELD.out.1 h).2.1)])
                      clear HHELD HSTEP HNO
                      (try clear c1)
                      (try clear c2)
                      (try clear c3)
                      (try clear c4)
                      go_quiet (fail)
                      have HB2 := Lib.hid (HB.out.below (below_drewN W2 nq))
                      go_wp2
                      go_roundg (gk - 1)
                      case measure => have := HI2.out; omega
                      case rel => exact ⟨i + 1, by have := HI2.out; omega, by go_num, by rw [HE.out]; exact HB2.out⟩
                  · have hq1 : decide (0 < L) = false := decide_eq_false c1
                    have HE := Lib.hid (show hldL (srpP ts ss js) ((srpP ts ss js).gen.left (t + 1)) (i + 1) = H by rw [HSTEP.out, if_neg (fun h => c1 (HHELD.out.1 h).1)])
                    clear HHELD HSTEP HNO
                    (try clear c1)
                    (try clear c2)
                    (try clear c3)
                    (try clear c4)
                    go_quiet (fail)
                    have HB2 := Lib.hid (HB.out.below (below_drewN W2 nq))
                    go_wp2
                    go_roundg (gk - 1)
                    case measure => have := HI2.out; omega
                    case rel => exact ⟨i + 1, by have := HI2.out; omega, by go_num, by rw [HE.out]; exact HB2.out⟩
                · obtain rfl : i = js.length := by omega
                  have HP1 := Lib.hid HP.out.fst
                  clear HP
                  go_wp2
                  go_roundg (GG - 1)
                  case measure => have := HQ.out; have := HGG.out; omega
                  case rel => exact ⟨t + 1, by have := HQ.out; have := HGG.out; omega, by go_num, HP1.out⟩
            | some k =>
              obtain ⟨kn, krel, kl⟩ := (srpP ts ss js).fair t k hrun
              have kn : k < js.length := kn
              have hle := (srpP ts ss js).gen.left_ex t k
              have hrk : srpF ts ss js t = (k : Int) := by unfold srpF; rw [hrun]; rfl
              have HDN := Lib.hid (show ∀ i, i < js.length → (if i = k then (dnF (srpP ts ss js).gen t k + 1 : Int) else dnF (srpP ts ss js).gen t i) = dnF (srpP ts ss js).gen (t + 1) i from fun i _ => by
                by_cases e : i = k
                · subst e; rw [if_pos rfl]; unfold dnF; rw [Gen.left_succ, if_pos hrun]; omega
                · rw [if_neg e]; unfold dnF; rw [Gen.left_succ, if_neg (by rw [hrun]; simpa using fun h => e h.symm)])
              obtain ⟨d0, d1, d2, -⟩ := HP.out.atN (j := 0) (k := k) rfl kn
              have hd : dnF (srpP ts ss js).gen t k = (((srpP ts ss js).gen.ex k - (srpP ts ss js).gen.left t k : Nat) : Int) := rfl
              have hex8 : (srpP ts ss js).gen.ex k ≤ 8 := by have h1 := leg_nat HLEG.out kn; have := tv_bd (tk_sv (legB_iff.1 HLEG.out).1 h1.1); show jex js k ≤ 8; omega
              rw [hd] at d0 HDN
              obtain ⟨N, hN⟩ : ∃ N, N = (srpP ts ss js).gen.ex k - (srpP ts ss js).gen.left t k := ⟨_, rfl⟩
              rw [← hN] at d0 HDN
              have hN8 : N ≤ 8 := by omega
              have HP3 := Lib.hid (HP.out.setN (j := 0) (x := (N : Int) + 1) (f' := dnF (srpP ts ss js).gen (t + 1)) rfl kn HDN.out)
              have hk0 : (0 : Int) ≤ k := by omega
              have hk1 : (k : Int) < js.length := by omega
              rw [hrk] at z0
              clear hrun hrk HDN hd hN krel kl hle
              go_wp2
              go_region
              obtain ⟨W, hW⟩ : ∃ W, W = (wr.setCell ⟨D, k, none⟩ (.int .i64 ((N : Int) + 1))).drew := ⟨_, rfl⟩
              rw [← hW]
              have HPW := Lib.hid (show PS w5 W [itN (.slice (some ⟨D, 0, none⟩) js.length js.length) js.length (dnF (srpP ts ss js).gen (t + 1))] from by rw [hW]; exact HP3.out.drew)
              clear hW HP3 d0 d1 d2
              go_wp2
              clear t0 z0 HP
              go_loopg [9, 10] js.length (fun q x y wr2 => ∃ (i : Nat), q + i = js.length ∧ y = .int .i64 i ∧ PS w5 wr2 [itN (.slice (some ⟨D, 0, none⟩) js.length js.length) js.length (dnF (srpP ts ss js).gen (t + 1)), itN x (hldL (srpP ts ss js) ((srpP ts ss js).gen.left (t + 1)) i).length (fun k => (hldL (srpP ts ss js) ((srpP ts ss js).gen.left (t + 1)) i).getD k 0)])
              case atStart => exact ⟨0, by omega, rfl, HPW.out.addN (below_box _ _) (OwnI.empty _ _)⟩
              case round =>
                obtain ⟨i, hi, rfl, hP⟩ := hrel
                have HI2 := Lib.hid hi
                have HP := Lib.hid hP
                have hii : i ≤ js.length := by omega
                have hml := hldL_len (srpP ts ss js) ((srpP ts ss js).gen.left (t + 1)) i
                obtain ⟨ha, hc, rfl⟩ := own_shape (hP.getN (j := 1) rfl)
                clear hi hP HPW
                by_cases hin : i < js.length
                · have hi0 : (0 : Int) ≤ i := by omega
                  have hi1 : (i : Int) < js.length := by omega
                  have hnat := leg_nat HLEG.out hin
                  have hsec := sc_nat HSC.out hnat.1
                  have hids : jid js i < ss.length := by have := (scB_iff.1 HSC.out).2.1; have := hnat.1; omega
                  obtain ⟨bj, oj, ej, hbj, x0, -, -, x3⟩ := (RJ5.out.below HP.out.be) i hin
                  obtain ⟨bs, os, es, hbs, y0, y1, y2⟩ := (RS5.out.below HP.out.be).tk hids
                  simp only [Option.some.injEq, Addr.mk.injEq, and_true] at es
                  obtain ⟨rfl, rfl⟩ := es
                  subst ej
                  rw [hnat.2.2.2.2.2.1] at x0
                  rw [hnat.2.2.2.2.2.2.2.2] at x3
                  rw [hsec.1] at y0
                  rw [hsec.2.1] at y1
                  rw [hsec.2.2.1] at y2
                  simp only [Nat.zero_add] at y0 y1 y2
                  have hle := (srpP ts ss js).gen.left_ex (t + 1) i
                  have z1 := (HP.out.atN (j := 0) (k := i) rfl hin).1
                  have hzd := (HP.out.atN (j := 0) (k := i) rfl hin).2.2.1
                  have hd : dnF (srpP ts ss js).gen (t + 1) i = ((jex js i - (srpP ts ss js).gen.left (t + 1) i : Nat) : Int) := rfl
                  rw [hd] at z1
                  have HSTEP := Lib.hid (show hldL (srpP ts ss js) ((srpP ts ss js).gen.left (t + 1)) (i + 1) = if (srpP ts ss js).held ((srpP ts ss js).gen.left (t + 1)) i then hldL (srpP ts ss js) ((srpP ts ss js).gen.left (t + 1)) i ++ [((srs ss (jid js i) : Nat) : Int)] else hldL (srpP ts ss js) ((srpP ts ss js).gen.left (t + 1)) i from rfl)
                  have HHELD := Lib.hid (show (srpP ts ss js).held ((srpP ts ss js).gen.left (t + 1)) i ↔ (0 < sln ss (jid js i) ∧ sst ss (jid js i) < jex js i - (srpP ts ss js).gen.left (t + 1) i ∧ jex js i - (srpP ts ss js).gen.left (t + 1) i < sst ss (jid js i) + sln ss (jid js i) ∧ jex js i - (srpP ts ss js).gen.left (t + 1) i < jex js i) by
                    have hx1 := hnat.2.2.1
                    unfold Srp.held
                    show 0 < sln ss (jid js i) ∧ sst ss (jid js i) < jex js i - (srpP ts ss js).gen.left (t + 1) i ∧ jex js i - (srpP ts ss js).gen.left (t + 1) i < sst ss (jid js i) + sln ss (jid js i) ∧ 0 < (srpP ts ss js).gen.left (t + 1) i ↔ _
                    omega)
                  have HNO := Lib.hid (fun h => hld_no HSO.out (S := srpP ts ss js) (t := t + 1) (i := i) hin h)
                  have hres : (srpP ts ss js).res i = srs ss (jid js i) := rfl
                  rw [hres] at HNO
                  obtain ⟨H, hH⟩ : ∃ H, H = hldL (srpP ts ss js) ((srpP ts ss js).gen.left (t + 1)) i := ⟨_, rfl⟩
                  rw [← hH] at HSTEP HNO HP hml ⊢
                  obtain ⟨I, hI⟩ : ∃ I, I = jid js i := ⟨_, rfl⟩
                  rw [← hI] at x0 y0 y1 y2 HSTEP HHELD HNO hids hsec
                  obtain ⟨X, hX⟩ : ∃ X, X = jex js i := ⟨_, rfl⟩
                  obtain ⟨T, hT⟩ : ∃ T, T = sst ss I := ⟨_, rfl⟩
                  obtain ⟨L, hL⟩ : ∃ L, L = sln ss I := ⟨_, rfl⟩
                  obtain ⟨S, hS⟩ : ∃ S, S = srs ss I := ⟨_, rfl⟩
                  obtain ⟨N, hN⟩ : ∃ N, N = jex js i - (srpP ts ss js).gen.left (t + 1) i := ⟨_, rfl⟩
                  have hT8 : T ≤ 8 := by omega
                  have hL8 : L ≤ 8 := by omega
                  have hX8 : X ≤ 8 := by have := tv_bd (tk_sv (legB_iff.1 HLEG.out).1 hnat.1); have := hnat.2.2.2.1; omega
                  have hNX : N ≤ X := by omega
                  rw [← hN] at z1 HHELD
                  rw [← hX] at x3 HHELD
                  rw [← hT] at y0 HHELD
                  rw [← hL] at y1 HHELD
                  rw [← hS] at y2 HSTEP HNO
                  have hI0 : (0 : Int) ≤ I := by omega
                  have hI1 : (I : Int) < ss.length := by omega
                  clear hnat hsec hI hX hT hL hS hN hle hd hres hH
                  have HB := Lib.hid (HP.out.alloc (.cells #[.int .i64 (T : Int), .int .i64 (L : Int), .int .i64 (S : Int)] 39))
                  have b2 := below_box wr (.cells #[.int .i64 (T : Int), .int .i64 (L : Int), .int .i64 (S : Int)] 39)
                  obtain ⟨W2, hW2⟩ : ∃ W2, W2 = wr.alloc (.cells #[.int .i64 (T : Int), .int .i64 (L : Int), .int .i64 (S : Int)] 39) := ⟨_, rfl⟩
                  rw [← hW2] at HB b2
                  have u0 : W2.cell? ⟨wr.heap.size, 0, none⟩ = some (.int .i64 (T : Int)) := by rw [hW2]; go_simp
                  have u1 : W2.cell? ⟨wr.heap.size, 1, none⟩ = some (.int .i64 (L : Int)) := by rw [hW2]; go_simp
                  have u2 : W2.cell? ⟨wr.heap.size, 2, none⟩ = some (.int .i64 (S : Int)) := by rw [hW2]; go_simp
                  have HW2 := Lib.hid hW2
                  have v3 := (b2.cell (p := ⟨bj, oj + i * 4 + 3, none⟩) hbj).trans x3
                  have v1 := (b2.cell (p := ⟨D, i, none⟩) hzd).trans z1
                  clear hW2
                  go_wp2
                  rw [← HW2.out]
                  clear b2 x0 x3 y0 y1 y2 z1 HW2 HP
                  by_cases c1 : 0 < L
                  · have hq1 : decide (0 < L) = true := decide_eq_true c1
                    by_cases c2 : T < N
                    · have hq2 : decide (T < N) = true := decide_eq_true c2
                      by_cases c3 : N < T + L
                      · have hq3 : decide (N < T + L) = true := decide_eq_true c3
                        have hq3' : decide ((N : Int) < (T : Int) + (L : Int)) = true := decide_eq_true (by omega)
                        by_cases c4 : N < X
                        · have hq4 : decide (N < X) = true := decide_eq_true c4
                          have HH := Lib.hid (HHELD.out.2 ⟨c1, c2, c3, c4⟩)
                          have hno := HNO.out HH.out
                          have HE := Lib.hid (show hldL (srpP ts ss js) ((srpP ts ss js).gen.left (t + 1)) (i + 1) = H ++ [(S : Int)] by rw [HSTEP.out, if_pos HH.out])
                          have HNO2 := Lib.hid hno
                          have HPU := Lib.hid (push_at H (S : Int))
                          clear hno c1 c2 c3 c4 HHELD HSTEP HNO HH
                          go_quiet (fail)
                          have HB2 := Lib.hid (HB.out.below (below_drewN W2 nq))
                          clear hq1 hq2 hq3 hq3' hq4
                          go_wp2_with fail
                          refine (lawHas_any ha hc H (S : Int) _ (HB2.out.getN (j := 1) rfl).intF' (by omega)).mono ?_
                          rintro e w7 ⟨rfl, rfl⟩
                          rw [HNO2.out]
                          go_wp2_with (at_builtin; refine wpList_append_at _ rfl (.tmp 121) (.tmp 124) 28 rfl w5.heap.size 3 iI _ 1 8 Try.underlying28 HI.out.1 HI.out.2.1 HI.out.2.2.1 HI.out.2.2.2 rfl (by decide) _ H.length (vals (fun k => H.getD k 0) H.length) rfl ((HB2.out.alloc _).getN (j := 1) rfl) ⟨(W2.drewN nq).heap.size, 0, none⟩ 1 1 [.int .i64 (S : Int)] rfl rfl (news1 _ _ _) (one1 _) (by unfold maxLen; omega) (by omega) (HB2.out.alloc _).sz (by decide) ?_; intro v5 u5 ho1 hg1 hp1 hn1; have L4 := Lib.hid ((HB2.out.alloc _).pushN (j := 1) (f' := fun k => (H ++ [(S : Int)]).getD k 0) rfl ho1 HPU.out.1 HPU.out.2 hg1 hp1); obtain ⟨a1, cc1, rfl⟩ := own_shape ho1; clear ho1 hg1 hp1 hn1)
                          go_roundg (gk - 1)
                          case measure => have := HI2.out; omega
                          case rel => exact ⟨i + 1, by have := HI2.out; omega, by go_num, by rw [HE.out, List.length_append]; exact L4.out⟩
                        · have hq4 : decide (N < X) = false := decide_eq_false c4
                          have HE := Lib.hid (show hldL (srpP ts ss js) ((srpP ts ss js).gen.left (t + 1)) (i + 1) = H by rw [HSTEP.out, if_neg (fun h => c4 (HHELD.out.1 h).2.2.2)])
                          clear HHELD HSTEP HNO
                          (try clear c1)
                          (try clear c2)
                          (try clear c3)
                          (try clear c4)
                          go_quiet (fail)
                          have HB2 := Lib.hid (HB.out.below (below_drewN W2 nq))
                          go_wp2
                          go_roundg (gk - 1)
                          case measure => have := HI2.out; omega
                          case rel => exact ⟨i + 1, by have := HI2.out; omega, by go_num, by rw [HE.out]; exact HB2.out⟩
                      · have hq3 : decide (N < T + L) = false := decide_eq_false c3
                        have hq3' : decide ((N : Int) < (T : Int) + (L : Int)) = false := decide_eq_false (by omega)
                        have HE := Lib.hid (show hldL (srpP ts ss js) ((srpP ts ss js).gen.left (t + 1)) (i + 1) = H by rw [HSTEP.out, if_neg (fun h => c3 (HHELD.out.1 h).2.2.1)])
                        clear HHELD HSTEP HNO
                        (try clear c1)
                        (try clear c2)
                        (try clear c3)
                        (try clear c4)
                        go_quiet (fail)
                        have HB2 := Lib.hid (HB.out.below (below_drewN W2 nq))
                        go_wp2
                        go_roundg (gk - 1)
                        case measure => have := HI2.out; omega
                        case rel => exact ⟨i + 1, by have := HI2.out; omega, by go_num, by rw [HE.out]; exact HB2.out⟩
                    · have hq2 : decide (T < N) = false := decide_eq_false c2
                      have HE := Lib.hid (show hldL (srpP ts ss js) ((srpP ts ss js).gen.left (t + 1)) (i + 1) = H by rw [HSTEP.out, if_neg (fun h => c2 (HHELD.out.1 h).2.1)])
                      clear HHELD HSTEP HNO
                      (try clear c1)
                      (try clear c2)
                      (try clear c3)
                      (try clear c4)
                      go_quiet (fail)
                      have HB2 := Lib.hid (HB.out.below (below_drewN W2 nq))
                      go_wp2
                      go_roundg (gk - 1)
                      case measure => have := HI2.out; omega
                      case rel => exact ⟨i + 1, by have := HI2.out; omega, by go_num, by rw [HE.out]; exact HB2.out⟩
                  · have hq1 : decide (0 < L) = false := decide_eq_false c1
                    have HE := Lib.hid (show hldL (srpP ts ss js) ((srpP ts ss js).gen.left (t + 1)) (i + 1) = H by rw [HSTEP.out, if_neg (fun h => c1 (HHELD.out.1 h).1)])
                    clear HHELD HSTEP HNO
                    (try clear c1)
                    (try clear c2)
                    (try clear c3)
                    (try clear c4)
                    go_quiet (fail)
                    have HB2 := Lib.hid (HB.out.below (below_drewN W2 nq))
                    go_wp2
                    go_roundg (gk - 1)
                    case measure => have := HI2.out; omega
                    case rel => exact ⟨i + 1, by have := HI2.out; omega, by go_num, by rw [HE.out]; exact HB2.out⟩
                · obtain rfl : i = js.length := by omega
                  have HP1 := Lib.hid HP.out.fst
                  clear HP
                  go_wp2
                  go_roundg (GG - 1)
                  case measure => have := HQ.out; have := HGG.out; omega
                  case rel => exact ⟨t + 1, by have := HQ.out; have := HGG.out; omega, by go_num, HP1.out⟩
          · obtain rfl : t = 120 := by omega
            go_wp2
            go_ret
            exact ⟨rfl, B5.trans (HP.out.be.mono B5.size)⟩
      · have hl0 : LR = 0 := by rw [HLR.out, lenRR, if_neg hok]
        clear hok
        subst hl0
        go_wp2_with fail
        refine (alive_any _).mono ?_
        rintro e w6 ⟨rfl, b6⟩
        go_wp2
        go_ret
        exact ⟨rfl, B5.trans (b6.mono B5.size)⟩
    exact AllReadyH.nil
  exact AllReadyH.nil

end Go.Proofs.Ytlagghoohloklaa
