/- The walk of laws.FnServerIsolation, for whatever code. Condition: the argument is a slice of bytes. -/
import Derived.Test.YtipnemngphglkaaSrvSame
import Derived.Test.YtipnemngphglkaaSvFeasImpl
import Derived.Test.YtipnemngphglkaaDrawRun5
import Derived.Test.YtipnemngphglkaaMissImpl
namespace Go.Proofs.Ytipnemngphglkaa
open Go.RowKit Go.Deep

/-- Nothing is late where the test holds. -/
theorem late_none5 {ts : List T3} {js : List J4} {ss : List A2} {als : List (List A2)} (hok : okS ts js ss als = true) (hf : sfB ts ss = true) : ∀ n, n ≤ js.length → lateL js ((cbOf js ss als).fin 120) n = []
  | 0, _ => rfl
  | n + 1, hn => by
    have ih := late_none5 hok hf n (by omega)
    have hk : n < js.length := by omega
    have hl := (okS_iff.1 hok).1
    obtain ⟨hv, _, h1⟩ := legB_iff.1 hl
    have hx := (h1 n hk).nat (sv_all hv).1
    simp only [lateL]
    rw [if_neg, ih]
    simp only [lateB, Bool.and_eq_true, Bool.or_eq_true, decide_eq_true_eq]
    rintro ⟨hd, h2⟩
    have hdn : (jb js n).2.2.1 = (jdl js n : Nat) := (leg_fits hl).2.2 n hk
    have hD : jdl js n ≤ 120 := by omega
    have hz := cb_safe hok hf hk hD
    have h3 := (Cb.fin_by (C := cbOf js ss als) (T := 120) (i := n) (show 0 < jex js n by omega) hD).2 hz
    omega
set_option maxRecDepth 100000 in
set_option maxHeartbeats 8000000 in
/-- laws.FnServerIsolation. -/
theorem fnServerIsolation_walk (a : Option Addr) (len cap : Nat) (w : World) (hb : Byts w a len cap) :
    Calls Try.prog 6 #[.slice a len cap] w fun e w' => e = .returned (.bool true) ∧ Below w.heap.size w w' := by
  have hm : cap ≤ maxLen := hb.2.2
  have hlc : len ≤ cap := hb.2.1
  unfold maxLen at hm
  have HB := Lib.hid hb
  clear hb
  by_cases hl : 1048576 < len
  · have hl' : (1048576 : Int) < len := by omega
    go_enter Try.func6, Try.ntmps6
    go_wp2
    go_ret
    exact ⟨rfl, Below.refl _ _⟩
  have hl' : ¬ (1048576 : Int) < len := by omega
  go_enter Try.func6, Try.ntmps6
  go_wp2_with fail
  refine (drawRunServers_any _ _ _ _ HB.out).mono ?_
  rintro e w1 ⟨g, cap1, jcap, scap, acap, ja, sa, aa, ts, js, ss, als, rfl, hn, hlc1, hcm1, hjn, hsn, haln, hac, h21, hr1, hoj, hos, hss, b1⟩
  have R1 := Lib.hid (And.intro hr1 (And.intro hoj.rowJ (And.intro hos.row2 hss)))
  have H21 := Lib.hid h21
  clear hr1 hoj hos hss h21 HB
  go_wp2_with fail
  refine (runServers_any _ _ _ _ _ _ _ _ ts js ss als _ R1.out.1 R1.out.2.1 R1.out.2.2.1 R1.out.2.2.2 (by omega) (by omega) (by omega) (by omega) (fun k _ => by have := H21.out k; omega)).mono ?_
  rintro e w2 ⟨hg2, b2⟩
  obtain ⟨ra, fa, ca, sra, rc, fc, cc, src, rfl, hi2⟩ := hg2.is
  obtain ⟨LN, hLN⟩ : ∃ LN, LN = lN ts js ss als := ⟨_, rfl⟩
  obtain ⟨LM, hLM⟩ : ∃ LM, LM = lM ts js ss als := ⟨_, rfl⟩
  obtain ⟨LS, hLS⟩ : ∃ LS, LS = lS ts js ss als := ⟨_, rfl⟩
  rw [← hLN, ← hLM, ← hLS] at hi2
  rw [← hLN, ← hLM, ← hLS]
  have hln : LN ≤ 120 := by rw [hLN, lN]; split <;> omega
  have hlm : LM ≤ 61 := by rw [hLM, lM]; split <;> omega
  have hls : LS ≤ 3 := by rw [hLS, lS]; split <;> omega
  have HLE := Lib.hid (And.intro hLN (And.intro hLM hLS))
  have I2 := Lib.hid hi2
  have B2 : Below w.heap.size w w2 := b1.trans (b2.mono b1.size)
  have R2 := Lib.hid (And.intro (R1.out.1.below b2) (And.intro (R1.out.2.1.below b2) (And.intro (R1.out.2.2.1.below b2) (R1.out.2.2.2.below b2))))
  clear hLN hLM hLS hi2 hg2 R1 b1 b2
  obtain ⟨u3, hu3⟩ : ∃ u3, u3 = w2.alloc (.cells #[.slice ra LN rc, .slice fa LM fc, .slice ca LN cc, .slice sra LS src] 52) := ⟨_, rfl⟩
  have b3 : Below w2.heap.size w2 u3 := by rw [hu3]; exact below_box _ _
  have s0 : u3.cell? ⟨w2.heap.size, 0, none⟩ = some (.slice ra LN rc) := by rw [hu3]; go_simp
  have s1 : u3.cell? ⟨w2.heap.size, 1, none⟩ = some (.slice fa LM fc) := by rw [hu3]; go_simp
  have s2 : u3.cell? ⟨w2.heap.size, 2, none⟩ = some (.slice ca LN cc) := by rw [hu3]; go_simp
  have s3 : u3.cell? ⟨w2.heap.size, 3, none⟩ = some (.slice sra LS src) := by rw [hu3]; go_simp
  have sz3 : w2.heap.size < u3.heap.size := by rw [hu3]; simp
  have I3 := Lib.hid (I2.out.below b3.drew)
  have R3 := Lib.hid (And.intro (R2.out.1.below b3.drew) (And.intro (R2.out.2.1.below b3.drew) (And.intro (R2.out.2.2.1.below b3.drew) (R2.out.2.2.2.below b3.drew))))
  have B3 : Below w.heap.size w u3.drew := B2.trans (b3.drew.mono B2.size)
  have HU3 := Lib.hid hu3
  clear hu3 b3 I2 R2 B2
  go_wp2
  rw [← HU3.out]
  clear HU3
  refine wp_region_held_drew (S := fun w' => w'.cell? ⟨w2.heap.size, 0, none⟩ = some (.slice ra LN rc) ∧ w'.cell? ⟨w2.heap.size, 1, none⟩ = some (.slice fa LM fc) ∧ w'.cell? ⟨w2.heap.size, 2, none⟩ = some (.slice ca LN cc) ∧ w'.cell? ⟨w2.heap.size, 3, none⟩ = some (.slice sra LS src)) (by kernel_rfl) ?_ (fun hHeld => ?_)
  · (try dsimp only)
    exact ⟨s0, s1, s2, s3⟩
  refine wpAnyH_take (i := 0) (v := ?_) (toArr_get _ 0 _ rfl) (by kernel_rfl) (by kernel_rfl) (by kernel_rfl) (fun _ _ _ h => h) (Or.inl ⟨by rfl, ?_⟩) (by assumption) ?_
  rotate_left
  · (intro w hSw; (try dsimp only at hSw); go_simp; (try with_reducible rfl))
  (try simp only [Act.put, List.setIfInBounds_toArray, List.set_cons_zero, List.set_cons_succ])
  refine wpAnyH_take (i := 1) (v := ?_) (toArr_get _ 1 _ rfl) (by kernel_rfl) (by kernel_rfl) (by kernel_rfl) (fun _ _ _ h => h) (Or.inl ⟨by rfl, ?_⟩) (by assumption) ?_
  rotate_left
  · (intro w hSw; (try dsimp only at hSw); go_simp; (try with_reducible rfl))
  (try simp only [Act.put, List.setIfInBounds_toArray, List.set_cons_zero, List.set_cons_succ])
  refine wpAnyH_take (i := 2) (v := ?_) (toArr_get _ 2 _ rfl) (by kernel_rfl) (by kernel_rfl) (by kernel_rfl) (fun _ _ _ h => h) (Or.inl ⟨by rfl, ?_⟩) (by assumption) ?_
  rotate_left
  · (intro w hSw; (try dsimp only at hSw); go_simp; (try with_reducible rfl))
  (try simp only [Act.put, List.setIfInBounds_toArray, List.set_cons_zero, List.set_cons_succ])
  refine wpAnyH_take (i := 3) (v := ?_) (toArr_get _ 3 _ rfl) (by kernel_rfl) (by kernel_rfl) (by kernel_rfl) (fun _ _ _ h => h) (Or.inl ⟨by rfl, ?_⟩) (by assumption) ?_
  rotate_left
  · (intro w hSw; (try dsimp only at hSw); go_simp; (try with_reducible rfl))
  (try simp only [Act.put, List.setIfInBounds_toArray, List.set_cons_zero, List.set_cons_succ])
  refine wpAnyH_take (i := 4) (v := ?_) (toArr_get _ 4 _ rfl) (by kernel_rfl) (by kernel_rfl) (by kernel_rfl) (fun _ _ _ h => h) (Or.inl ⟨by rfl, ?_⟩) (by assumption) ?_
  rotate_left
  · (intro w hSw; (try dsimp only at hSw); go_simp; (try with_reducible rfl))
  (try simp only [Act.put, List.setIfInBounds_toArray, List.set_cons_zero, List.set_cons_succ])
  refine wpAnyH_ready (rs := [5]) (by kernel_rfl) (by simp) ?_
  refine AllReadyH.cons (toArr_get _ 5 _ rfl) (fun K hK => ?_) ?_
  · go_simp
    refine (specRunServers_any _ _ _ _ _ _ _ _ ts js ss als _ R3.out.1 R3.out.2.1 R3.out.2.2.1 R3.out.2.2.2 (by omega) (by omega) (by omega) (by omega) (fun k _ => by have := H21.out k; omega)).mono ?_
    rintro e w4 ⟨hg4, b4⟩
    obtain ⟨ra', fa', ca', sra', rc', fc', cc', src', rfl, hi4⟩ := hg4.is
    rw [← HLE.out.1, ← HLE.out.2.1, ← HLE.out.2.2] at hi4
    rw [← HLE.out.1, ← HLE.out.2.1, ← HLE.out.2.2]
    have I4 := Lib.hid hi4
    have HB4 := Lib.hid (show Below u3.heap.size u3 w4 from (Below.refl _ _).drew.trans b4)
    have J4 := Lib.hid (I3.out.below b4)
    clear hi4 hg4 b4
    go_wp2_with fail
    refine hK.out _ _ ?_ (fun hHeld2 => ?_)
    · (try dsimp only)
      exact ⟨(HB4.out.cell (p := ⟨w2.heap.size, 0, none⟩) sz3).trans s0, (HB4.out.cell (p := ⟨w2.heap.size, 1, none⟩) sz3).trans s1, (HB4.out.cell (p := ⟨w2.heap.size, 2, none⟩) sz3).trans s2, (HB4.out.cell (p := ⟨w2.heap.size, 3, none⟩) sz3).trans s3⟩
    clear hK K hHeld
    have hHeld := hHeld2
    clear hHeld2
    (try simp only [Act.put, List.setIfInBounds_toArray, List.set_cons_zero, List.set_cons_succ])
    refine wpAnyH_ready (rs := [6]) (by kernel_rfl) (by simp) ?_
    refine AllReadyH.cons (toArr_get _ 6 _ rfl) (fun K hK => ?_) ?_
    · go_simp
      refine (sameRun_same _ J4.out I4.out hln (by omega) (by omega) (fun k => by have := H21.out k; omega)).mono ?_
      rintro e w5 ⟨rfl, b5⟩
      have HB5 := Lib.hid (HB4.out.trans (b5.mono HB4.out.size))
      clear b5 I4
      go_wp2_with fail
      refine hK.out _ _ ?_ (fun hHeld2 => ?_)
      · (try dsimp only)
        exact ⟨(HB5.out.cell (p := ⟨w2.heap.size, 0, none⟩) sz3).trans s0, (HB5.out.cell (p := ⟨w2.heap.size, 1, none⟩) sz3).trans s1, (HB5.out.cell (p := ⟨w2.heap.size, 2, none⟩) sz3).trans s2, (HB5.out.cell (p := ⟨w2.heap.size, 3, none⟩) sz3).trans s3⟩
      clear hK K hHeld
      have hHeld := hHeld2
      clear hHeld2
      (try simp only [Act.put, List.setIfInBounds_toArray, List.set_cons_zero, List.set_cons_succ])
      refine wpAnyH_take (i := 7) (v := ?_) (toArr_get _ 7 _ rfl) (by kernel_rfl) (by kernel_rfl) (by kernel_rfl) (fun _ _ _ h => h) (Or.inl ⟨by rfl, ?_⟩) (by assumption) ?_
      rotate_left
      · (intro w hSw; (try dsimp only at hSw); go_simp; (try with_reducible rfl))
      (try simp only [Act.put, List.setIfInBounds_toArray, List.set_cons_zero, List.set_cons_succ])
      refine wpAnyH_done (by kernel_rfl) ?_ _
      have I5 := Lib.hid (I3.out.below (show Below u3.drew.heap.size u3.drew w5 from ⟨HB5.out.os, HB5.out.tape, HB5.out.output, HB5.out.size, HB5.out.block⟩))
      have R5 := Lib.hid (show Row w5 (some ⟨g, 0, none⟩) ts ∧ RowJ w5 ja js ∧ Row2 w5 sa ss ∧ RowSS w5 aa als from by
        have b : Below u3.drew.heap.size u3.drew w5 := ⟨HB5.out.os, HB5.out.tape, HB5.out.output, HB5.out.size, HB5.out.block⟩
        exact ⟨R3.out.1.below b, R3.out.2.1.below b, R3.out.2.2.1.below b, R3.out.2.2.2.below b⟩)
      have B5 := Lib.hid (show Below w.heap.size w w5 from B3.trans ((show Below u3.drew.heap.size u3.drew w5 from ⟨HB5.out.os, HB5.out.tape, HB5.out.output, HB5.out.size, HB5.out.block⟩).mono B3.size))
      have sz5 : w2.heap.size < w5.heap.size := Nat.lt_of_lt_of_le sz3 HB5.out.size
      obtain ⟨t0, t1, t2, t3⟩ := hHeld
      clear I3 R3 B3 HB4 HB5 J4 s0 s1 s2 s3
      cases hok : okS ts js ss als with
      | false =>
        have hLN : LN = 0 := by rw [HLE.out.1, lN, if_neg (by rw [hok]; simp)]
        subst hLN
        clear hok
        go_wp2_with fail
        refine (alive_any _).mono ?_
        rintro e w6 ⟨rfl, b6⟩
        go_wp2
        go_ret
        exact ⟨rfl, B5.out.trans (b6.mono B5.out.size)⟩
      | true =>
        have hLN : LN = 120 := by rw [HLE.out.1, lN, if_pos hok]
        have hLM : LM = js.length := by rw [HLE.out.2.1, lM, if_pos hok]
        subst hLN
        subst hLM
        have HOK := Lib.hid hok
        clear hok
        go_wp2_with fail
        refine (serversFeasible_any _ _ _ _ ts ss _ R5.out.1 R5.out.2.2.1 (by omega) (by omega)).mono ?_
        rintro e w6 ⟨rfl, b6⟩
        have B6 := Lib.hid (B5.out.trans (b6.mono B5.out.size))
        cases hf : sfB ts ss with
        | false =>
          clear hf
          go_wp2_with fail
          refine (alive_any _).mono ?_
          rintro e w7 ⟨rfl, b7⟩
          go_wp2
          go_ret
          exact ⟨rfl, B6.out.trans (b7.mono B6.out.size)⟩
        | true =>
          have HF := Lib.hid (late_none5 HOK.out hf js.length (Nat.le_refl _))
          have q0 := (b6.cell (p := ⟨w2.heap.size, 0, none⟩) sz5).trans t0
          have q1 := (b6.cell (p := ⟨w2.heap.size, 1, none⟩) sz5).trans t1
          have RJ6 := Lib.hid (R5.out.2.1.below b6)
          have F6 := Lib.hid (I5.out.f.below b6)
          clear hf b6 t0 t1 t2 t3
          go_wp2_with fail
          refine (missed_any _ _ _ _ js.length js _ _ ⟨_, _, _, rfl⟩ _ RJ6.out F6.out (by omega) (by omega)).mono ?_
          rintro e w8 ⟨v, rfl, ho, b8⟩
          rw [if_pos rfl, HF.out] at ho
          obtain ⟨a8, c8, rfl⟩ := own_shape ho
          clear ho
          go_wp2
          go_ret
          exact ⟨rfl, B6.out.trans (b8.mono B6.out.size)⟩
    exact AllReadyH.nil
  exact AllReadyH.nil

end Go.Proofs.Ytipnemngphglkaa
