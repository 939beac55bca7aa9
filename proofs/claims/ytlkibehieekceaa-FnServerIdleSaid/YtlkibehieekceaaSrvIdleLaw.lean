/- The walk of laws.FnServerIdle, for whatever code. Condition: the argument is a slice of bytes. -/
import Derived.Test.YtlkibehieekceaaSrvSame
import Derived.Test.YtlkibehieekceaaDrawRun5
import Derived.Test.YtlkibehieekceaaRunImpl
import Derived.BigQuiet
namespace Go.Proofs.Ytlkibehieekceaa
open Go.RowKit Go.Deep

theorem arInfo : (Try.prog.info? 105).map (fun i => (i.zero, i.size, i.bytes)) = some (some (.slice none 0 0), 1, 24) := by kernel_rfl
theorem run_make_ars (n : Nat) (hn : n ≤ 1099511627776) (w : World) :
    (Instr.makeSlice 61 (.int .i64 (n : Int)) (.int .i64 (n : Int))).run Try.prog w = .ok (.slice (some ⟨w.heap.size, 0, none⟩) n n) (w.alloc (.cells (madeCells #[.slice none 0 0] n) 105)) := by
  obtain ⟨i, hi, hz, hs, hb⟩ := info_parts arInfo
  have h := run_make (P := Try.prog) w 61 105 i _ Try.underlying61 hi hz .i64 .i64 (n : Int) (n : Int) (by omega) (by omega) (by rw [hb]; omega) (by omega)
  rw [hs] at h
  simpa [Value.cells] using h
theorem nil_getD (n k : Nat) : (List.replicate n ([] : List A2)).getD k [] = [] := by
  rw [List.getD_eq_getElem?_getD, List.getElem?_replicate]
  split <;> rfl
/-- No requests, as they are made. -/
theorem rowSS_none (w : World) (n : Nat) : RowSS (w.alloc (.cells (madeCells #[.slice none 0 0] n) 105)) (some ⟨w.heap.size, 0, none⟩) (List.replicate n []) := fun k hk => by
  have hk' : k < n := by simpa using hk
  rw [nil_getD]
  have h := World.rowIs_alloc w (madeCells #[.slice none 0 0] n) 105 (fun _ => .slice none 0 0) (fun i hi => by
    have : i < n := by simpa [size_madeCells] using hi
    simp [madeCells, this, Nat.mod_one])
  rw [size_madeCells] at h
  exact ⟨w.heap.size, 0, none, 0, rfl, by simp, by rw [Nat.zero_add]; exact h.cell hk', Nat.le_refl _, fun j hj => absurd hj (Nat.not_lt_zero _)⟩
theorem okS_none {ts : List T3} {js : List J4} {ss : List A2} {als : List (List A2)} (h : okS ts js ss als = true) : okS ts js ss (List.replicate ss.length []) = true := by
  obtain ⟨h1, h2, _, _⟩ := okS_iff.1 h
  exact okS_iff.2 ⟨h1, h2, by simp, fun k _ => by rw [nil_getD]; rfl⟩
theorem idle_fn {ts : List T3} {js : List J4} {ss : List A2} (h : okS ts js ss (List.replicate ss.length []) = true) : (fun u => optI ((cbOf js ss (List.replicate ss.length [])).run u)) = runF js ∧ (cbOf js ss (List.replicate ss.length [])).fin 120 = finF js := by
  obtain ⟨h1, h2, h3, h4⟩ := okS_iff.1 h
  have hC := cb_ok js h2 h3 h4
  have ha : ∀ k, k < (cbOf js ss (List.replicate ss.length [])).ns → (cbOf js ss (List.replicate ss.length [])).al k = [] := fun k _ => nil_getD _ _
  refine ⟨funext fun u => ?_, funext fun i => ?_⟩
  · rw [Cb.idle_run hC ha]
    rfl
  · rw [(Cb.idle hC ha 120).2]
    rfl
set_option maxRecDepth 100000 in
set_option maxHeartbeats 8000000 in
/-- laws.FnServerIdle. -/
theorem fnServerIdle_walk (a : Option Addr) (len cap : Nat) (w : World) (hb : Byts w a len cap) :
    Calls Try.prog 10 #[.slice a len cap] w fun e w' => e = .returned (.bool true) ∧ Below w.heap.size w w' := by
  have hm : cap ≤ maxLen := hb.2.2
  have hlc : len ≤ cap := hb.2.1
  unfold maxLen at hm
  have HB := Lib.hid hb
  clear hb
  by_cases hl : 1048576 < len
  · have hl' : (1048576 : Int) < len := by omega
    go_enter Try.func10, Try.ntmps10
    go_wp2
    go_ret
    exact ⟨rfl, Below.refl _ _⟩
  have hl' : ¬ (1048576 : Int) < len := by omega
  go_enter Try.func10, Try.ntmps10
  go_wp2_with fail
  refine (drawRunServers_any _ _ _ _ HB.out).mono ?_
  rintro e w1 ⟨g, cap1, jcap, scap, acap, ja, sa, aa, ts, js, ss, als, rfl, hn, hlc1, hcm1, hjn, hsn, haln, hac, h21, hr1, hoj, hos, hss, b1⟩
  have R1 := Lib.hid (And.intro hr1 (And.intro hoj.rowJ (And.intro hos.row2 hss)))
  have H21 := Lib.hid h21
  clear hr1 hoj hos hss h21 HB
  go_wp2_with fail
  refine (runServers_any _ _ _ _ _ _ _ _ ts js ss als _ R1.out.1 R1.out.2.1 R1.out.2.2.1 R1.out.2.2.2 (by omega) (by omega) (by omega) (by omega) (fun k _ => by have := H21.out k; omega)).mono ?_
  rintro e w2 ⟨hg2, b2⟩
  obtain ⟨ra, fa, ca, sra, rc, fc, cc, src, rfl, hi2⟩ := hg2.is
  obtain ⟨LN, hLN⟩ : ∃ LN, LN = lN ts js ss als := ⟨_, rfl⟩
  obtain ⟨LM, hLM⟩ : ∃ LM, LM = lM ts js ss als := ⟨_, rfl⟩
  obtain ⟨LS, hLS⟩ : ∃ LS, LS = lS ts js ss als := ⟨_, rfl⟩
  rw [← hLN, ← hLM, ← hLS] at hi2
  rw [← hLN, ← hLM, ← hLS]
  have hln : LN ≤ 120 := by rw [hLN, lN]; split <;> omega
  have hlm : LM ≤ 61 := by rw [hLM, lM]; split <;> omega
  have hls : LS ≤ 3 := by rw [hLS, lS]; split <;> omega
  have HLE := Lib.hid (And.intro hLN (And.intro hLM hLS))
  have I2 := Lib.hid hi2
  have B2 : Below w.heap.size w w2 := b1.trans (b2.mono b1.size)
  have R2 := Lib.hid (And.intro (R1.out.1.below b2) (And.intro (R1.out.2.1.below b2) (And.intro (R1.out.2.2.1.below b2) (R1.out.2.2.2.below b2))))
  clear hLN hLM hLS hi2 hg2 R1 b1 b2
  obtain ⟨u3, hu3⟩ : ∃ u3, u3 = w2.alloc (.cells #[.slice ra LN rc, .slice fa LM fc, .slice ca LN cc, .slice sra LS src] 66) := ⟨_, rfl⟩
  have b3 : Below w2.heap.size w2 u3 := by rw [hu3]; exact below_box _ _
  have s0 : u3.cell? ⟨w2.heap.size, 0, none⟩ = some (.slice ra LN rc) := by rw [hu3]; go_simp
  have s1 : u3.cell? ⟨w2.heap.size, 1, none⟩ = some (.slice fa LM fc) := by rw [hu3]; go_simp
  have s2 : u3.cell? ⟨w2.heap.size, 2, none⟩ = some (.slice ca LN cc) := by rw [hu3]; go_simp
  have s3 : u3.cell? ⟨w2.heap.size, 3, none⟩ = some (.slice sra LS src) := by rw [hu3]; go_simp
  have sz3 : w2.heap.size < u3.heap.size := by rw [hu3]; simp
  have I3 := Lib.hid (I2.out.below b3.drew)
  have R3 := Lib.hid (And.intro (R2.out.1.below b3.drew) (And.intro (R2.out.2.1.below b3.drew) (And.intro (R2.out.2.2.1.below b3.drew) (R2.out.2.2.2.below b3.drew))))
  have B3 : Below w.heap.size w u3.drew := B2.trans (b3.drew.mono B2.size)
  have HU3 := Lib.hid hu3
  clear hu3 b3 I2 R2 B2
  go_wp2
  rw [← HU3.out]
  clear HU3
  refine wp_region_held_drew (S := fun w' => w'.cell? ⟨w2.heap.size, 0, none⟩ = some (.slice ra LN rc) ∧ w'.cell? ⟨w2.heap.size, 1, none⟩ = some (.slice fa LM fc) ∧ w'.cell? ⟨w2.heap.size, 2, none⟩ = some (.slice ca LN cc) ∧ w'.cell? ⟨w2.heap.size, 3, none⟩ = some (.slice sra LS src)) (by kernel_rfl) ?_ (fun hHeld => ?_)
  · (try dsimp only)
    exact ⟨s0, s1, s2, s3⟩
  refine wpAnyH_take (i := 0) (v := ?_) (toArr_get _ 0 _ rfl) (by kernel_rfl) (by kernel_rfl) (by kernel_rfl) (fun _ _ _ h => h) (Or.inl ⟨by rfl, ?_⟩) (by assumption) ?_
  rotate_left
  · (intro w hSw; (try dsimp only at hSw); go_simp; (try with_reducible rfl))
  (try simp only [Act.put, List.setIfInBounds_toArray, List.set_cons_zero, List.set_cons_succ])
  refine wpAnyH_take (i := 1) (v := ?_) (toArr_get _ 1 _ rfl) (by kernel_rfl) (by kernel_rfl) (by kernel_rfl) (fun _ _ _ h => h) (Or.inl ⟨by rfl, ?_⟩) (by assumption) ?_
  rotate_left
  · (intro w hSw; (try dsimp only at hSw); go_simp; (try with_reducible rfl))
  (try simp only [Act.put, List.setIfInBounds_toArray, List.set_cons_zero, List.set_cons_succ])
  refine wpAnyH_take (i := 2) (v := ?_) (toArr_get _ 2 _ rfl) (by kernel_rfl) (by kernel_rfl) (by kernel_rfl) (fun _ _ _ h => h) (Or.inl ⟨by rfl, ?_⟩) (by assumption) ?_
  rotate_left
  · (intro w hSw; (try dsimp only at hSw); go_simp; (try with_reducible rfl))
  (try simp only [Act.put, List.setIfInBounds_toArray, List.set_cons_zero, List.set_cons_succ])
  refine wpAnyH_take (i := 3) (v := ?_) (toArr_get _ 3 _ rfl) (by kernel_rfl) (by kernel_rfl) (by kernel_rfl) (fun _ _ _ h => h) (Or.inl ⟨by rfl, ?_⟩) (by assumption) ?_
  rotate_left
  · (intro w hSw; (try dsimp only at hSw); go_simp; (try with_reducible rfl))
  (try simp only [Act.put, List.setIfInBounds_toArray, List.set_cons_zero, List.set_cons_succ])
  refine wpAnyH_take (i := 4) (v := ?_) (toArr_get _ 4 _ rfl) (by kernel_rfl) (by kernel_rfl) (by kernel_rfl) (fun _ _ _ h => h) (Or.inl ⟨by rfl, ?_⟩) (by assumption) ?_
  rotate_left
  · (intro w hSw; (try dsimp only at hSw); go_simp; (try with_reducible rfl))
  (try simp only [Act.put, List.setIfInBounds_toArray, List.set_cons_zero, List.set_cons_succ])
  refine wpAnyH_ready (rs := [5]) (by kernel_rfl) (by simp) ?_
  refine AllReadyH.cons (toArr_get _ 5 _ rfl) (fun K hK => ?_) ?_
  · go_simp
    refine (specRunServers_any _ _ _ _ _ _ _ _ ts js ss als _ R3.out.1 R3.out.2.1 R3.out.2.2.1 R3.out.2.2.2 (by omega) (by omega) (by omega) (by omega) (fun k _ => by have := H21.out k; omega)).mono ?_
    rintro e w4 ⟨hg4, b4⟩
    obtain ⟨ra', fa', ca', sra', rc', fc', cc', src', rfl, hi4⟩ := hg4.is
    rw [← HLE.out.1, ← HLE.out.2.1, ← HLE.out.2.2] at hi4
    rw [← HLE.out.1, ← HLE.out.2.1, ← HLE.out.2.2]
    have I4 := Lib.hid hi4
    have HB4 := Lib.hid (show Below u3.heap.size u3 w4 from (Below.refl _ _).drew.trans b4)
    have J4 := Lib.hid (I3.out.below b4)
    clear hi4 hg4 b4
    go_wp2_with fail
    refine hK.out _ _ ?_ (fun hHeld2 => ?_)
    · (try dsimp only)
      exact ⟨(HB4.out.cell (p := ⟨w2.heap.size, 0, none⟩) sz3).trans s0, (HB4.out.cell (p := ⟨w2.heap.size, 1, none⟩) sz3).trans s1, (HB4.out.cell (p := ⟨w2.heap.size, 2, none⟩) sz3).trans s2, (HB4.out.cell (p := ⟨w2.heap.size, 3, none⟩) sz3).trans s3⟩
    clear hK K hHeld
    have hHeld := hHeld2
    clear hHeld2
    (try simp only [Act.put, List.setIfInBounds_toArray, List.set_cons_zero, List.set_cons_succ])
    refine wpAnyH_ready (rs := [6]) (by kernel_rfl) (by simp) ?_
    refine AllReadyH.cons (toArr_get _ 6 _ rfl) (fun K hK => ?_) ?_
    · go_simp
      refine (sameRun_same _ J4.out I4.out hln (by omega) (by omega) (fun k => by have := H21.out k; omega)).mono ?_
      rintro e w5 ⟨rfl, b5⟩
      have HB5 := Lib.hid (HB4.out.trans (b5.mono HB4.out.size))
      clear b5 I4
      go_wp2_with fail
      refine hK.out _ _ ?_ (fun hHeld2 => ?_)
      · (try dsimp only)
        exact ⟨(HB5.out.cell (p := ⟨w2.heap.size, 0, none⟩) sz3).trans s0, (HB5.out.cell (p := ⟨w2.heap.size, 1, none⟩) sz3).trans s1, (HB5.out.cell (p := ⟨w2.heap.size, 2, none⟩) sz3).trans s2, (HB5.out.cell (p := ⟨w2.heap.size, 3, none⟩) sz3).trans s3⟩
      clear hK K hHeld
      have hHeld := hHeld2
      clear hHeld2
      (try simp only [Act.put, List.setIfInBounds_toArray, List.set_cons_zero, List.set_cons_succ])
      refine wpAnyH_take (i := 7) (v := ?_) (toArr_get _ 7 _ rfl) (by kernel_rfl) (by kernel_rfl) (by kernel_rfl) (fun _ _ _ h => h) (Or.inl ⟨by rfl, ?_⟩) (by assumption) ?_
      rotate_left
      · (intro w hSw; (try dsimp only at hSw); go_simp; (try with_reducible rfl))
      (try simp only [Act.put, List.setIfInBounds_toArray, List.set_cons_zero, List.set_cons_succ])
      refine wpAnyH_done (by kernel_rfl) ?_ _
      have I5 := Lib.hid (I3.out.below (show Below u3.drew.heap.size u3.drew w5 from ⟨HB5.out.os, HB5.out.tape, HB5.out.output, HB5.out.size, HB5.out.block⟩))
      have R5 := Lib.hid (show Row w5 (some ⟨g, 0, none⟩) ts ∧ RowJ w5 ja js ∧ Row2 w5 sa ss ∧ RowSS w5 aa als from by
        have b : Below u3.drew.heap.size u3.drew w5 := ⟨HB5.out.os, HB5.out.tape, HB5.out.output, HB5.out.size, HB5.out.block⟩
        exact ⟨R3.out.1.below b, R3.out.2.1.below b, R3.out.2.2.1.below b, R3.out.2.2.2.below b⟩)
      have B5 := Lib.hid (show Below w.heap.size w w5 from B3.trans ((show Below u3.drew.heap.size u3.drew w5 from ⟨HB5.out.os, HB5.out.tape, HB5.out.output, HB5.out.size, HB5.out.block⟩).mono B3.size))
      have sz5 : w2.heap.size < w5.heap.size := Nat.lt_of_lt_of_le sz3 HB5.out.size
      obtain ⟨t0, t1, t2, t3⟩ := hHeld
      clear I3 R3 B3 HB4 HB5 J4 s0 s1 s2 s3
      cases hok : okS ts js ss als with
      | false =>
        have hLN : LN = 0 := by rw [HLE.out.1, lN, if_neg (by rw [hok]; simp)]
        subst hLN
        clear hok
        go_wp2_with fail
        refine (alive_any _).mono ?_
        rintro e w6 ⟨rfl, b6⟩
        go_wp2
        go_ret
        exact ⟨rfl, B5.out.trans (b6.mono B5.out.size)⟩
      | true =>
        have hLN : LN = 120 := by rw [HLE.out.1, lN, if_pos hok]
        subst hLN
        have HOK := Lib.hid hok
        have HLEG := Lib.hid (okS_iff.1 hok).1
        clear hok
        go_wp2
        go_loopg [8] 120 (fun m z wr => ∃ t : Nat, m + t = 120 ∧ z = .int .i64 t ∧ Below w5.heap.size w5 wr)
        case atStart => exact ⟨0, rfl, rfl, Below.refl _ _⟩
        case round =>
          obtain ⟨t, hk, rfl, B⟩ := hrel
          have HK := Lib.hid hk
          have HB := Lib.hid B
          have htt : t ≤ 120 := by omega
          have q0 := (B.cell (p := ⟨w2.heap.size, 0, none⟩) sz5).trans t0
          have q2 := (B.cell (p := ⟨w2.heap.size, 2, none⟩) sz5).trans t2
          clear hk B
          by_cases hlt : t < 120
          · obtain ⟨bc, oc, ec, -, c0⟩ := (I5.out.below HB.out).c t hlt
            subst ec
            obtain ⟨br, or_, er, -, r0⟩ := (I5.out.below HB.out).r t hlt
            subst er
            have c1 : wr.cell? ⟨bc, oc + t, none⟩ = some (.int .i64 (optI ((cbOf js ss als).K t))) := c0
            have r1 : wr.cell? ⟨br, or_ + t, none⟩ = some (.int .i64 (optI ((cbOf js ss als).run t))) := r0
            clear c0 r0
            have ht0 : (0 : Int) ≤ t := by omega
            have ht1 : (t : Int) < 120 := by omega
            cases hK : (cbOf js ss als).K t with
            | none =>
              have hc : optI ((cbOf js ss als).K t) = -1 := by rw [hK]; rfl
              rw [hc] at c1
              clear hc hK r1
              go_wp2
              go_roundg (gk - 1)
              case measure => have := HK.out; omega
              case rel => exact ⟨t + 1, by have := HK.out; omega, by go_num, HB.out⟩
            | some kk =>
              have hr : optI ((cbOf js ss als).run t) = -1 := by unfold Cb.run; rw [hK]; rfl
              have hc : optI ((cbOf js ss als).K t) = (kk : Int) := by rw [hK]; rfl
              rw [hr] at r1
              rw [hc] at c1
              have hkk0 : (0 : Int) ≤ (kk : Int) := by omega
              clear hr hc hK
              go_wp2
              go_roundg (gk - 1)
              case measure => have := HK.out; omega
              case rel => exact ⟨t + 1, by have := HK.out; omega, by go_num, HB.out⟩
          · obtain rfl : t = 120 := by omega
            have hmk := run_make_ars ss.length (by omega)
            obtain ⟨u6, hu6⟩ : ∃ u6, u6 = wr.alloc (.cells (madeCells #[.slice none 0 0] ss.length) 105) := ⟨_, rfl⟩
            have b6 : Below wr.heap.size wr u6 := by rw [hu6]; exact below_box _ _
            have HB6 := Lib.hid (HB.out.trans (b6.mono HB.out.size))
            have R6 := Lib.hid (And.intro (R5.out.1.below HB6.out) (And.intro (R5.out.2.1.below HB6.out) (R5.out.2.2.1.below HB6.out)))
            have RN := Lib.hid (show RowSS u6 (some ⟨wr.heap.size, 0, none⟩) (List.replicate ss.length []) by rw [hu6]; exact rowSS_none _ _)
            have HU6 := Lib.hid hu6
            have hl6 : (List.replicate ss.length ([] : List A2)).length = ss.length := List.length_replicate
            have HON := Lib.hid (okS_none HOK.out)
            clear hu6 b6
            go_wp2_with fail
            rw [← HU6.out]
            have HC := Lib.hid (runServers_any (some ⟨g, 0, none⟩) ja sa (some ⟨wr.heap.size, 0, none⟩) cap1 jcap scap ss.length ts js ss (List.replicate ss.length []) u6 R6.out.1 R6.out.2.1 R6.out.2.2 RN.out (by omega) (by omega) (by omega) (by omega) (fun k _ => by rw [nil_getD]; exact Nat.zero_le _))
            rw [hl6] at HC
            refine HC.out.mono ?_
            rintro e w7 ⟨hg7, b7⟩
            obtain ⟨ra7, fa7, ca7, sa7, rc7, fc7, cc7, sc7, rfl, hi7⟩ := hg7.is
            rw [show lN ts js ss (List.replicate ss.length []) = 120 by rw [lN, if_pos HON.out], show lM ts js ss (List.replicate ss.length []) = js.length by rw [lM, if_pos HON.out]] at hi7
            rw [show lN ts js ss (List.replicate ss.length []) = 120 by rw [lN, if_pos HON.out], show lM ts js ss (List.replicate ss.length []) = js.length by rw [lM, if_pos HON.out]]
            obtain ⟨L7, hL7⟩ : ∃ L7, L7 = lS ts js ss (List.replicate ss.length []) := ⟨_, rfl⟩
            rw [← hL7] at hi7
            rw [← hL7]
            obtain ⟨e1, e2⟩ := idle_fn HON.out
            have i1 := hi7.r
            have i2 := hi7.f
            rw [e1] at i1
            rw [e2] at i2
            obtain ⟨u8, hu8⟩ : ∃ u8, u8 = w7.alloc (.cells #[.slice ra7 120 rc7, .slice fa7 js.length fc7, .slice ca7 120 cc7, .slice sa7 L7 sc7] 66) := ⟨_, rfl⟩
            have b8 : Below w7.heap.size w7 u8 := by rw [hu8]; exact below_box _ _
            have s0 : u8.cell? ⟨w7.heap.size, 0, none⟩ = some (.slice ra7 120 rc7) := by rw [hu8]; go_simp
            have s1 : u8.cell? ⟨w7.heap.size, 1, none⟩ = some (.slice fa7 js.length fc7) := by rw [hu8]; go_simp
            have sz8 : w7.heap.size < u8.heap.size := by rw [hu8]; simp
            have J1 := Lib.hid (And.intro (i1.below b8.drew) (i2.below b8.drew))
            have R8 := Lib.hid (And.intro ((R6.out.1.below b7).below b8.drew) ((R6.out.2.1.below b7).below b8.drew))
            have B8 := Lib.hid (show Below w.heap.size w u8.drew from (B5.out.trans ((HB6.out.trans ((b7.trans (b8.drew.mono b7.size)).mono HB6.out.size)).mono B5.out.size)))
            have HU8 := Lib.hid hu8
            clear hl6 hu8 e1 e2 i1 i2 hi7 hL7 hg7 b7 b8 HC hmk
            go_wp2
            rw [← HU8.out]
            clear HU8
            refine wp_region_held_drew (S := fun w' => w'.cell? ⟨w7.heap.size, 0, none⟩ = some (.slice ra7 120 rc7) ∧ w'.cell? ⟨w7.heap.size, 1, none⟩ = some (.slice fa7 js.length fc7)) (by kernel_rfl) ?_ (fun hHeld => ?_)
            · (try dsimp only)
              exact ⟨s0, s1⟩
            refine wpAnyH_take (i := 0) (v := ?_) (toArr_get _ 0 _ rfl) (by kernel_rfl) (by kernel_rfl) (by kernel_rfl) (fun _ _ _ h => h) (Or.inl ⟨by rfl, ?_⟩) (by assumption) ?_
            rotate_left
            · (intro w hSw; (try dsimp only at hSw); go_simp; (try with_reducible rfl))
            (try simp only [Act.put, List.setIfInBounds_toArray, List.set_cons_zero, List.set_cons_succ])
            refine wpAnyH_take (i := 1) (v := ?_) (toArr_get _ 1 _ rfl) (by kernel_rfl) (by kernel_rfl) (by kernel_rfl) (fun _ _ _ h => h) (Or.inl ⟨by rfl, ?_⟩) (by assumption) ?_
            rotate_left
            · (intro w hSw; (try dsimp only at hSw); go_simp; (try with_reducible rfl))
            (try simp only [Act.put, List.setIfInBounds_toArray, List.set_cons_zero, List.set_cons_succ])
            refine wpAnyH_take (i := 2) (v := ?_) (toArr_get _ 2 _ rfl) (by kernel_rfl) (by kernel_rfl) (by kernel_rfl) (fun _ _ _ h => h) (Or.inl ⟨by rfl, ?_⟩) (by assumption) ?_
            rotate_left
            · (intro w hSw; (try dsimp only at hSw); go_simp; (try with_reducible rfl))
            (try simp only [Act.put, List.setIfInBounds_toArray, List.set_cons_zero, List.set_cons_succ])
            refine wpAnyH_take (i := 3) (v := ?_) (toArr_get _ 3 _ rfl) (by kernel_rfl) (by kernel_rfl) (by kernel_rfl) (fun _ _ _ h => h) (Or.inl ⟨by rfl, ?_⟩) (by assumption) ?_
            rotate_left
            · (intro w hSw; (try dsimp only at hSw); go_simp; (try with_reducible rfl))
            (try simp only [Act.put, List.setIfInBounds_toArray, List.set_cons_zero, List.set_cons_succ])
            refine wpAnyH_ready (rs := [4]) (by kernel_rfl) (by simp) ?_
            refine AllReadyH.cons (toArr_get _ 4 _ rfl) (fun K hK => ?_) ?_
            · go_simp
              refine (runEdf_any _ _ _ _ ts js _ R8.out.1 R8.out.2 (by omega) (by omega)).mono ?_
              rintro e w9 ⟨⟨vr9, vf9, rfl, o1, o2, -⟩, b9⟩
              rw [lenR, if_pos HLEG.out] at o1
              rw [lenF, if_pos HLEG.out] at o2
              obtain ⟨ra9, rc9, rfl⟩ := own_shape o1
              obtain ⟨fa9, fc9, rfl⟩ := own_shape o2
              have K1 := Lib.hid (And.intro o1.intF' o2.intF')
              have K2 := Lib.hid (And.intro (J1.out.1.below b9) (J1.out.2.below b9))
              have HB9 := Lib.hid (show Below u8.heap.size u8 w9 from (Below.refl _ _).drew.trans b9)
              have BB9 := Lib.hid (B8.out.trans (b9.mono B8.out.size))
              clear o1 o2 b9
              go_wp2_with fail
              refine hK.out _ _ ?_ (fun hHeld2 => ?_)
              · (try dsimp only)
                exact ⟨(HB9.out.cell (p := ⟨w7.heap.size, 0, none⟩) sz8).trans s0, (HB9.out.cell (p := ⟨w7.heap.size, 1, none⟩) sz8).trans s1⟩
              clear hK K hHeld
              have hHeld := hHeld2
              clear hHeld2
              (try simp only [Act.put, List.setIfInBounds_toArray, List.set_cons_zero, List.set_cons_succ])
              refine wpAnyH_ready (rs := [5]) (by kernel_rfl) (by simp) ?_
              refine AllReadyH.cons (toArr_get _ 5 _ rfl) (fun K hK => ?_) ?_
              · go_simp
                refine (sameSchedule_same _ _ _ _ _ _ _ _ _ _ (runF js) (finF js) _ K2.out.1 K2.out.2 K1.out.1 K1.out.2 (by omega) (by omega)).mono ?_
                rintro e w10 ⟨rfl, b10⟩
                have HB10 := Lib.hid (HB9.out.trans (b10.mono HB9.out.size))
                have BB10 := Lib.hid (BB9.out.trans (b10.mono BB9.out.size))
                clear b10
                go_wp2_with fail
                refine hK.out _ _ ?_ (fun hHeld2 => ?_)
                · (try dsimp only)
                  exact ⟨(HB10.out.cell (p := ⟨w7.heap.size, 0, none⟩) sz8).trans s0, (HB10.out.cell (p := ⟨w7.heap.size, 1, none⟩) sz8).trans s1⟩
                clear hK K hHeld
                have hHeld := hHeld2
                clear hHeld2
                (try simp only [Act.put, List.setIfInBounds_toArray, List.set_cons_zero, List.set_cons_succ])
                refine wpAnyH_take (i := 6) (v := ?_) (toArr_get _ 6 _ rfl) (by kernel_rfl) (by kernel_rfl) (by kernel_rfl) (fun _ _ _ h => h) (Or.inl ⟨by rfl, ?_⟩) (by assumption) ?_
                rotate_left
                · (intro w hSw; (try dsimp only at hSw); go_simp; (try with_reducible rfl))
                (try simp only [Act.put, List.setIfInBounds_toArray, List.set_cons_zero, List.set_cons_succ])
                refine wpAnyH_done (by kernel_rfl) ?_ _
                go_wp2
                go_ret
                exact ⟨rfl, BB10.out⟩
              exact AllReadyH.nil
            exact AllReadyH.nil
    exact AllReadyH.nil
  exact AllReadyH.nil

end Go.Proofs.Ytlkibehieekceaa
