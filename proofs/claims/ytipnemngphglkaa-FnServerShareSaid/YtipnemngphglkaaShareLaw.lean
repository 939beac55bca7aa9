/- The walk of laws.FnServerShare, for whatever code. Condition: the argument is a slice of bytes. -/
import Derived.Test.YtipnemngphglkaaSrvSame
import Derived.Test.YtipnemngphglkaaDrawRun5
import Derived.BigQuiet
import Derived.Deep.Cut
namespace Go.Proofs.Ytipnemngphglkaa
open Go.RowKit Go.Deep

/-- A store into a block that is elder than the run leaves the run. -/
theorem SrvIs.other {base g : Nat} {ts : List T3} {js : List J4} {ss : List A2} {als : List (List A2)} {w : World} {ra fa ca sa : Option Addr} {rc fc cc sc : Nat} {n m s : Nat} (_ : SrvIs w (cbOf js ss als) als n m s ra fa ca sa) (hg : g < base) (h : SrvGot base ts js ss als (.returned (.agg #[.slice ra n rc, .slice fa m fc, .slice ca n cc, .slice sa s sc])) w) (a b c d : Value) :
    SrvIs ((((w.setCell ⟨g, 0, none⟩ a).setCell ⟨g, 1, none⟩ b).setCell ⟨g, 2, none⟩ c).setCell ⟨g, 3, none⟩ d) (cbOf js ss als) als n m s ra fa ca sa := by
  have h2 : SrvGot base ts js ss als (.returned (.agg #[.slice ra n rc, .slice fa m fc, .slice ca n cc, .slice sa s sc])) ((((w.setCell ⟨g, 0, none⟩ a).setCell ⟨g, 1, none⟩ b).setCell ⟨g, 2, none⟩ c).setCell ⟨g, 3, none⟩ d) := by
    rcases h with ⟨hok, vr, vf, vc, vs, iv, e, hp⟩ | h
    · exact .inl ⟨hok, vr, vf, vc, vs, iv, e, (((hp.other hg _).other hg _).other hg _).other hg _⟩
    · exact .inr h
  obtain ⟨ra', fa', ca', sa', rc', fc', cc', sc', e, hi⟩ := h2.is
  simp only [Ending.returned.injEq, Value.agg.injEq, Array.mk.injEq, List.cons.injEq, Value.slice.injEq, and_true] at e
  obtain ⟨⟨rfl, e1, -⟩, ⟨rfl, e2, -⟩, ⟨rfl, -, -⟩, ⟨rfl, e4, -⟩⟩ := e
  rw [← e1, ← e2, ← e4] at hi
  exact hi
theorem leg_nil : legB [] [] = true := by decide
theorem okS_one (x : A2) (al : List A2) : okS [] [] [x] [al] = (ssB [x] && alB al) := by
  unfold okS
  rw [leg_nil, Bool.true_and]
  simp
theorem bb_bd {al : List A2} (h : alB al = true) : ∀ {i : Nat}, i < al.length → Cb.bb al i ≤ 119 + 20 * (i + 1)
  | 0, hi => by
    have h1 := al_tm h hi
    have h2 := al_x h hi
    show aT al 0 + aX al 0 ≤ _
    omega
  | i + 1, hi => by
    have h1 := al_tm h hi
    have h2 := al_x h hi
    have h3 := bb_bd h (i := i) (by omega)
    show max (Cb.bb al i) (aT al (i + 1)) + aX al (i + 1) ≤ _
    omega
/-- When the requests ahead of request i are done. -/
def nw (al : List A2) : Nat → Nat
  | 0 => 0
  | i + 1 => Cb.bb al i
theorem nw_bb (al : List A2) (i : Nat) : max (nw al i) (aT al i) + aX al i = Cb.bb al i := by
  cases i with
  | zero => show max 0 (aT al 0) + aX al 0 = aT al 0 + aX al 0; omega
  | succ i => rfl
/-- The drawn run of one server, as the rest of the law reads it. -/
def OneRun (w1 : World) (ss : List A2) (als : List (List A2)) (LN LM LS : Nat) (s7 : Value) (wx : World) : Prop :=
  ∃ (gr : Nat) (ra fa ca sra : Option Addr) (cc src : Nat), s7 = .pointer (some ⟨gr, 0, none⟩) ∧ wx.cell? ⟨gr, 2, none⟩ = some (.slice ca LN cc) ∧ wx.cell? ⟨gr, 3, none⟩ = some (.slice sra LS src) ∧ gr < wx.heap.size ∧
    SrvIs wx (cbOf [] [ab ss 0] [als.getD 0 []]) [als.getD 0 []] LN LM LS ra fa ca sra ∧ Below w1.heap.size w1 wx

set_option maxRecDepth 100000 in
set_option maxHeartbeats 8000000 in
/-- laws.FnServerShare. -/
theorem fnServerShare_walk (a : Option Addr) (len cap : Nat) (w : World) (hb : Byts w a len cap) :
    Calls Try.prog 9 #[.slice a len cap] w fun e w' => e = .returned (.bool true) ∧ Below w.heap.size w w' := by
  have hm : cap ≤ maxLen := hb.2.2
  have hlc : len ≤ cap := hb.2.1
  unfold maxLen at hm
  have HB := Lib.hid hb
  clear hb
  by_cases hl : 1048576 < len
  · have hl' : (1048576 : Int) < len := by omega
    go_enter Try.func9, Try.ntmps9
    go_wp2
    go_ret
    exact ⟨rfl, Below.refl _ _⟩
  have hl' : ¬ (1048576 : Int) < len := by omega
  go_enter Try.func9, Try.ntmps9
  go_wp2_with fail
  refine (drawRunServers_any _ _ _ _ HB.out).mono ?_
  rintro e w1 ⟨g, cap1, jcap, scap, acap, ja, sa, aa, ts, js, ss, als, rfl, hn, hlc1, hcm1, hjn, hsn, haln, hac, h21, hr1, hoj, hos, hss, b1⟩
  have hcs := own2_cap hos
  have R1 := Lib.hid (And.intro hos.row2 hss)
  have H21 := Lib.hid h21
  have B1 := Lib.hid b1
  clear hr1 hoj hos hss h21 HB b1
  by_cases hs0 : ss.length = 0
  · have hsb : ((ss.length : Int) == 0) = true := beq_iff_eq.2 (by omega)
    clear hs0
    go_wp2_with fail
    refine (alive_any _).mono ?_
    rintro e w6 ⟨rfl, b6⟩
    go_wp2
    go_ret
    exact ⟨rfl, B1.out.trans (b6.mono B1.out.size)⟩
  · have hsb : ((ss.length : Int) == 0) = false := beq_eq_false_iff_ne.2 (by omega)
    have hs1 : 1 ≤ ss.length := by omega
    clear hs0
    by_cases ha0 : als.length = 0
    · have hab : ((als.length : Int) == 0) = true := beq_iff_eq.2 (by omega)
      clear ha0
      go_wp2_with fail
      refine (alive_any _).mono ?_
      rintro e w6 ⟨rfl, b6⟩
      go_wp2
      go_ret
      exact ⟨rfl, B1.out.trans (b6.mono B1.out.size)⟩
    · have hab : ((als.length : Int) == 0) = false := beq_eq_false_iff_ne.2 (by omega)
      have ha1 : 1 ≤ als.length := by omega
      clear ha0
      have SA := Lib.hid (show Row2 w1 sa [ab ss 0] ∧ RowSS w1 aa [als.getD 0 []] from ⟨fun k hk => by
          obtain rfl : k = 0 := by simpa using hk
          exact R1.out.1 0 (by omega), fun k hk => by
          obtain rfl : k = 0 := by simpa using hk
          exact R1.out.2 0 (by omega)⟩)
      have HL1 := Lib.hid (show ∀ k, ([als.getD 0 []].getD k []).length ≤ 1099511627776 from fun k => by
        cases k with
        | zero => exact Nat.le_trans (H21.out 0) (by omega)
        | succ k => simp)
      obtain ⟨LN, hLN⟩ : ∃ LN, LN = lN [] [] [ab ss 0] [als.getD 0 []] := ⟨_, rfl⟩
      obtain ⟨LM, hLM⟩ : ∃ LM, LM = lM [] [] [ab ss 0] [als.getD 0 []] := ⟨_, rfl⟩
      obtain ⟨LS, hLS⟩ : ∃ LS, LS = lS [] [] [ab ss 0] [als.getD 0 []] := ⟨_, rfl⟩
      have hln : LN ≤ 120 := by rw [hLN, lN]; split <;> omega
      have hls : LS ≤ 1 := by rw [hLS, lS]; split <;> simp
      have HLE := Lib.hid (And.intro hLN (And.intro hLM hLS))
      have q1 : (1 : Int) ≤ scap := by omega
      have q2 : (1 : Int) ≤ acap := by omega
      have ha2 : (0 : Int) < als.length := by omega
      clear hLN hLM hLS
      go_upto_region 6 with fail
      go_cut [7] from 30 (fun s7 wx => OneRun w1 ss als LN LM LS s7 wx)
      case first =>
        refine wp_region_noPanic ?_
        refine wp_region_held_drew (S := fun _ => True) (by kernel_rfl) ?_ (fun hHeld => ?_)
        · (try dsimp only)
          all_goals exact True.intro
        generalize hW0 : World.drew _ = wd
        have Bwd : Below w1.heap.size w1 wd := by rw [← hW0]; exact (Below.refl _ _).drew
        clear hW0
        refine wpAnyH_take (i := 2) (v := ?_) (toArr_get _ 2 _ rfl) (by kernel_rfl) (by kernel_rfl) (by kernel_rfl) (fun _ _ _ h => h) (Or.inl ⟨by rfl, ?_⟩) (by assumption) ?_
        rotate_left
        · (intro w hSw; (try dsimp only at hSw); go_simp; (try with_reducible rfl))
        (try simp only [Act.put, List.setIfInBounds_toArray, List.set_cons_zero, List.set_cons_succ])
        refine wpAnyH_take (i := 3) (v := ?_) (toArr_get _ 3 _ rfl) (by kernel_rfl) (by kernel_rfl) (by kernel_rfl) (fun _ _ _ h => h) (Or.inl ⟨by rfl, ?_⟩) (by assumption) ?_
        rotate_left
        · (intro w hSw; (try dsimp only at hSw); go_simp; (try with_reducible rfl))
        (try simp only [Act.put, List.setIfInBounds_toArray, List.set_cons_zero, List.set_cons_succ])
        refine wpAnyH_take (i := 4) (v := ?_) (toArr_get _ 4 _ rfl) (by kernel_rfl) (by kernel_rfl) (by kernel_rfl) (fun _ _ _ h => h) (Or.inl ⟨by rfl, ?_⟩) (by assumption) ?_
        rotate_left
        · (intro w hSw; (try dsimp only at hSw); go_simp; (try with_reducible rfl))
        (try simp only [Act.put, List.setIfInBounds_toArray, List.set_cons_zero, List.set_cons_succ])
        refine wpAnyH_take (i := 5) (v := ?_) (toArr_get _ 5 _ rfl) (by kernel_rfl) (by kernel_rfl) (by kernel_rfl) (fun _ _ _ h => h) (Or.inl ⟨by rfl, ?_⟩) (by assumption) ?_
        rotate_left
        · (intro w hSw; (try dsimp only at hSw); go_simp; (try with_reducible rfl))
        (try simp only [Act.put, List.setIfInBounds_toArray, List.set_cons_zero, List.set_cons_succ])
        refine wpAnyH_ready (rs := [0, 1, 7]) (by kernel_rfl) (by simp) ?_
        refine AllReadyH.cons (toArr_get _ 0 _ rfl) (fun K hK => ?_) ?_
        · go_simp
          generalize hWx : World.alloc _ _ = wd_0
          have Bwd_0 : Below w1.heap.size w1 wd_0 := by rw [← hWx]; exact Bwd.alloc Bwd.size _
          clear hWx
          refine hK.out _ _ ?_ (fun hHeld2 => ?_)
          · (try dsimp only)
            all_goals exact True.intro
          clear hK K hHeld
          have hHeld := hHeld2
          clear hHeld2
          (try simp only [Act.put, List.setIfInBounds_toArray, List.set_cons_zero, List.set_cons_succ])
          refine wpAnyH_ready (rs := [1, 7]) (by kernel_rfl) (by simp) ?_
          refine AllReadyH.cons (toArr_get _ 1 _ rfl) (fun K hK => ?_) ?_
          · go_simp
            generalize hWx : World.alloc _ _ = wd_0_1
            have Bwd_0_1 : Below w1.heap.size w1 wd_0_1 := by rw [← hWx]; exact Bwd_0.alloc Bwd_0.size _
            clear hWx
            refine hK.out _ _ ?_ (fun hHeld2 => ?_)
            · (try dsimp only)
              all_goals exact True.intro
            clear hK K hHeld
            have hHeld := hHeld2
            clear hHeld2
            (try simp only [Act.put, List.setIfInBounds_toArray, List.set_cons_zero, List.set_cons_succ])
            refine wpAnyH_ready (rs := [6, 7]) (by kernel_rfl) (by simp) ?_
            refine AllReadyH.cons (toArr_get _ 6 _ rfl) (fun K hK => ?_) ?_
            · go_simp
              refine (runServers_any _ _ _ _ _ _ _ _ ([] : List T3) ([] : List J4) [ab ss 0] [als.getD 0 []] _ (fun k t hk => by simp at hk) (fun k hk => absurd hk (Nat.not_lt_zero _)) (SA.out.1.below Bwd_0_1) (SA.out.2.below Bwd_0_1) (by simp) (by simp) (by simp) (by simp) (fun k hk => HL1.out k)).mono ?_
              rintro e wd_0_1_6 ⟨hg6, b6⟩
              have Bwd_0_1_6 := Bwd_0_1.trans (b6.mono Bwd_0_1.size)
              have G6 := Lib.hid hg6
              obtain ⟨ra, fa, ca, sra, rc, fc, cc, src, rfl, hi6⟩ := hg6.is
              rw [← HLE.out.1, ← HLE.out.2.1, ← HLE.out.2.2] at hi6
              rw [← HLE.out.1, ← HLE.out.2.1, ← HLE.out.2.2]
              rw [← HLE.out.1, ← HLE.out.2.1, ← HLE.out.2.2] at G6
              have I6 := Lib.hid hi6
              clear hi6 hg6 b6
              go_wp2_with fail
              refine hK.out _ _ ?_ (fun hHeld2 => ?_)
              · (try dsimp only)
                all_goals exact True.intro
              clear hK K hHeld
              have hHeld := hHeld2
              clear hHeld2
              (try simp only [Act.put, List.setIfInBounds_toArray, List.set_cons_zero, List.set_cons_succ])
              refine wpAnyH_ready (rs := [7]) (by kernel_rfl) (by simp) ?_
              refine AllReadyH.cons (toArr_get _ 7 _ rfl) (fun K hK => ?_) ?_
              · go_simp
                generalize hWx : World.alloc _ _ = wd_0_1_6_7
                have Bwd_0_1_6_7 : Below w1.heap.size w1 wd_0_1_6_7 := by rw [← hWx]; exact Bwd_0_1_6.alloc Bwd_0_1_6.size _
                have Z := Lib.hid (show OwnF 52 4 wd_0_1_6_7 wd_0_1_6.heap.size (.slice (some ⟨wd_0_1_6.heap.size, 0, none⟩) 1 1) 1 (fun _ => .slice none 0 0) by
                  rw [← hWx]
                  exact own_box wd_0_1_6 _ 4 #[.slice none 0 0, .slice none 0 0, .slice none 0 0, .slice none 0 0] _ rfl (fun c hc => by
                    match c, hc with
                    | 0, _ | 1, _ | 2, _ | 3, _ => rfl))
                have HGlt : wd_0_1_6.heap.size < wd_0_1_6_7.heap.size := by rw [← hWx]; simp
                have Bnew : Below wd_0_1_6.heap.size wd_0_1_6 wd_0_1_6_7 := by rw [← hWx]; exact below_box _ _
                clear hWx
                refine hK.out _ _ ?_ (fun hHeld2 => ?_)
                · (try dsimp only)
                  all_goals exact True.intro
                clear hK K hHeld
                have hHeld := hHeld2
                clear hHeld2
                (try simp only [Act.put, List.setIfInBounds_toArray, List.set_cons_zero, List.set_cons_succ])
                obtain ⟨zf, zc⟩ := zero_at Z.out
                have z0 := zf 0
                have z1 := zf 1
                have z2 := zf 2
                have z3 := zf 3
                have v0 := zc 0 (by omega)
                have v1 := zc 1 (by omega)
                have v2 := zc 2 (by omega)
                have v3 := zc 3 (by omega)
                clear zf zc
                refine wpAnyH_ready (rs := [8]) (by kernel_rfl) (by simp) ?_
                refine AllReadyH.cons (toArr_get _ 8 _ rfl) (fun K hK => ?_) ?_
                · go_simp
                  refine hK.out _ _ ?_ (fun hHeld2 => ?_)
                  · (try dsimp only)
                    all_goals exact True.intro
                  clear hK K hHeld
                  have hHeld := hHeld2
                  clear hHeld2
                  (try simp only [Act.put, List.setIfInBounds_toArray, List.set_cons_zero, List.set_cons_succ])
                  refine wpAnyH_done (by kernel_rfl) ?_ _
                  refine NoPanic.normal ?_
                  have Z4 := Lib.hid ((((Z.out.set (m := 0) (by omega) (.slice ra LN rc)).set (m := 1) (by omega) (.slice fa LM fc)).set (m := 2) (by omega) (.slice ca LN cc)).set (m := 3) (by omega) (.slice sra LS src))
                  have BF := Lib.hid ((((Bwd_0_1_6_7.setCell (p := ⟨wd_0_1_6.heap.size, 0, none⟩) (Bwd_0_1_6.size) (.slice ra LN rc)).setCell (p := ⟨wd_0_1_6.heap.size, 1, none⟩) (Bwd_0_1_6.size) (.slice fa LM fc)).setCell (p := ⟨wd_0_1_6.heap.size, 2, none⟩) (Bwd_0_1_6.size) (.slice ca LN cc)).setCell (p := ⟨wd_0_1_6.heap.size, 3, none⟩) (Bwd_0_1_6.size) (.slice sra LS src))
                  have IF := Lib.hid (I6.out.below ((((Bnew.setCell (p := ⟨wd_0_1_6.heap.size, 0, none⟩) (Nat.le_refl _) (.slice ra LN rc)).setCell (p := ⟨wd_0_1_6.heap.size, 1, none⟩) (Nat.le_refl _) (.slice fa LM fc)).setCell (p := ⟨wd_0_1_6.heap.size, 2, none⟩) (Nat.le_refl _) (.slice ca LN cc)).setCell (p := ⟨wd_0_1_6.heap.size, 3, none⟩) (Nat.le_refl _) (.slice sra LS src)))
                  go_wp2_with fail
                  go_meet
                  exact ⟨wd_0_1_6.heap.size, ra, fa, ca, sra, cc, src, rfl, (zero_at Z4.out).2 2 (by omega), (zero_at Z4.out).2 3 (by omega), by simpa [World.setCell] using HGlt, IF.out, BF.out⟩
                exact AllReadyH.nil
              exact AllReadyH.nil
            refine AllReadyH.cons (toArr_get _ 7 _ rfl) (fun K hK => ?_) ?_
            · go_simp
              generalize hWx : World.alloc _ _ = wd_0_1_7
              have Bwd_0_1_7 : Below w1.heap.size w1 wd_0_1_7 := by rw [← hWx]; exact Bwd_0_1.alloc Bwd_0_1.size _
              have Z := Lib.hid (show OwnF 52 4 wd_0_1_7 wd_0_1.heap.size (.slice (some ⟨wd_0_1.heap.size, 0, none⟩) 1 1) 1 (fun _ => .slice none 0 0) by
                rw [← hWx]
                exact own_box wd_0_1 _ 4 #[.slice none 0 0, .slice none 0 0, .slice none 0 0, .slice none 0 0] _ rfl (fun c hc => by
                  match c, hc with
                  | 0, _ | 1, _ | 2, _ | 3, _ => rfl))
              have HGlt : wd_0_1.heap.size < wd_0_1_7.heap.size := by rw [← hWx]; simp
              clear hWx
              refine hK.out _ _ ?_ (fun hHeld2 => ?_)
              · (try dsimp only)
                all_goals exact True.intro
              clear hK K hHeld
              have hHeld := hHeld2
              clear hHeld2
              (try simp only [Act.put, List.setIfInBounds_toArray, List.set_cons_zero, List.set_cons_succ])
              refine wpAnyH_ready (rs := [6]) (by kernel_rfl) (by simp) ?_
              refine AllReadyH.cons (toArr_get _ 6 _ rfl) (fun K hK => ?_) ?_
              · go_simp
                refine (runServers_any _ _ _ _ _ _ _ _ ([] : List T3) ([] : List J4) [ab ss 0] [als.getD 0 []] _ (fun k t hk => by simp at hk) (fun k hk => absurd hk (Nat.not_lt_zero _)) (SA.out.1.below Bwd_0_1_7) (SA.out.2.below Bwd_0_1_7) (by simp) (by simp) (by simp) (by simp) (fun k hk => HL1.out k)).mono ?_
                rintro e wd_0_1_7_6 ⟨hg6, b6⟩
                have Bwd_0_1_7_6 := Bwd_0_1_7.trans (b6.mono Bwd_0_1_7.size)
                have G6 := Lib.hid hg6
                obtain ⟨ra, fa, ca, sra, rc, fc, cc, src, rfl, hi6⟩ := hg6.is
                rw [← HLE.out.1, ← HLE.out.2.1, ← HLE.out.2.2] at hi6
                rw [← HLE.out.1, ← HLE.out.2.1, ← HLE.out.2.2]
                rw [← HLE.out.1, ← HLE.out.2.1, ← HLE.out.2.2] at G6
                have I6 := Lib.hid hi6
                have Z := Lib.hid (Z.out.below b6)
                have HG6 : wd_0_1.heap.size < wd_0_1_7.heap.size := HGlt
                have HGlt := Nat.lt_of_lt_of_le HGlt b6.size
                clear hi6 hg6 b6
                go_wp2_with fail
                refine hK.out _ _ ?_ (fun hHeld2 => ?_)
                · (try dsimp only)
                  all_goals exact True.intro
                clear hK K hHeld
                have hHeld := hHeld2
                clear hHeld2
                (try simp only [Act.put, List.setIfInBounds_toArray, List.set_cons_zero, List.set_cons_succ])
                obtain ⟨zf, zc⟩ := zero_at Z.out
                have z0 := zf 0
                have z1 := zf 1
                have z2 := zf 2
                have z3 := zf 3
                have v0 := zc 0 (by omega)
                have v1 := zc 1 (by omega)
                have v2 := zc 2 (by omega)
                have v3 := zc 3 (by omega)
                clear zf zc
                refine wpAnyH_ready (rs := [8]) (by kernel_rfl) (by simp) ?_
                refine AllReadyH.cons (toArr_get _ 8 _ rfl) (fun K hK => ?_) ?_
                · go_simp
                  refine hK.out _ _ ?_ (fun hHeld2 => ?_)
                  · (try dsimp only)
                    all_goals exact True.intro
                  clear hK K hHeld
                  have hHeld := hHeld2
                  clear hHeld2
                  (try simp only [Act.put, List.setIfInBounds_toArray, List.set_cons_zero, List.set_cons_succ])
                  refine wpAnyH_done (by kernel_rfl) ?_ _
                  refine NoPanic.normal ?_
                  have Z4 := Lib.hid ((((Z.out.set (m := 0) (by omega) (.slice ra LN rc)).set (m := 1) (by omega) (.slice fa LM fc)).set (m := 2) (by omega) (.slice ca LN cc)).set (m := 3) (by omega) (.slice sra LS src))
                  have BF := Lib.hid ((((Bwd_0_1_7_6.setCell (p := ⟨wd_0_1.heap.size, 0, none⟩) (Bwd_0_1.size) (.slice ra LN rc)).setCell (p := ⟨wd_0_1.heap.size, 1, none⟩) (Bwd_0_1.size) (.slice fa LM fc)).setCell (p := ⟨wd_0_1.heap.size, 2, none⟩) (Bwd_0_1.size) (.slice ca LN cc)).setCell (p := ⟨wd_0_1.heap.size, 3, none⟩) (Bwd_0_1.size) (.slice sra LS src))
                  have IF := Lib.hid (I6.out.other HG6 G6.out (.slice ra LN rc) (.slice fa LM fc) (.slice ca LN cc) (.slice sra LS src))
                  go_wp2_with fail
                  go_meet
                  exact ⟨wd_0_1.heap.size, ra, fa, ca, sra, cc, src, rfl, (zero_at Z4.out).2 2 (by omega), (zero_at Z4.out).2 3 (by omega), by simpa [World.setCell] using HGlt, IF.out, BF.out⟩
                exact AllReadyH.nil
              exact AllReadyH.nil
            exact AllReadyH.nil
          refine AllReadyH.cons (toArr_get _ 7 _ rfl) (fun K hK => ?_) ?_
          · go_simp
            generalize hWx : World.alloc _ _ = wd_0_7
            have Bwd_0_7 : Below w1.heap.size w1 wd_0_7 := by rw [← hWx]; exact Bwd_0.alloc Bwd_0.size _
            have Z := Lib.hid (show OwnF 52 4 wd_0_7 wd_0.heap.size (.slice (some ⟨wd_0.heap.size, 0, none⟩) 1 1) 1 (fun _ => .slice none 0 0) by
              rw [← hWx]
              exact own_box wd_0 _ 4 #[.slice none 0 0, .slice none 0 0, .slice none 0 0, .slice none 0 0] _ rfl (fun c hc => by
                match c, hc with
                | 0, _ | 1, _ | 2, _ | 3, _ => rfl))
            have HGlt : wd_0.heap.size < wd_0_7.heap.size := by rw [← hWx]; simp
            clear hWx
            refine hK.out _ _ ?_ (fun hHeld2 => ?_)
            · (try dsimp only)
              all_goals exact True.intro
            clear hK K hHeld
            have hHeld := hHeld2
            clear hHeld2
            (try simp only [Act.put, List.setIfInBounds_toArray, List.set_cons_zero, List.set_cons_succ])
            refine wpAnyH_ready (rs := [1]) (by kernel_rfl) (by simp) ?_
            refine AllReadyH.cons (toArr_get _ 1 _ rfl) (fun K hK => ?_) ?_
            · go_simp
              generalize hWx : World.alloc _ _ = wd_0_7_1
              have Bwd_0_7_1 : Below w1.heap.size w1 wd_0_7_1 := by rw [← hWx]; exact Bwd_0_7.alloc Bwd_0_7.size _
              have b0 : Below wd_0_7.heap.size wd_0_7 wd_0_7_1 := by rw [← hWx]; exact below_box _ _
              have Z := Lib.hid (Z.out.below b0)
              have HGlt := Nat.lt_of_lt_of_le HGlt b0.size
              clear hWx
              refine hK.out _ _ ?_ (fun hHeld2 => ?_)
              · (try dsimp only)
                all_goals exact True.intro
              clear hK K hHeld
              have hHeld := hHeld2
              clear hHeld2
              (try simp only [Act.put, List.setIfInBounds_toArray, List.set_cons_zero, List.set_cons_succ])
              refine wpAnyH_ready (rs := [6]) (by kernel_rfl) (by simp) ?_
              refine AllReadyH.cons (toArr_get _ 6 _ rfl) (fun K hK => ?_) ?_
              · go_simp
                refine (runServers_any _ _ _ _ _ _ _ _ ([] : List T3) ([] : List J4) [ab ss 0] [als.getD 0 []] _ (fun k t hk => by simp at hk) (fun k hk => absurd hk (Nat.not_lt_zero _)) (SA.out.1.below Bwd_0_7_1) (SA.out.2.below Bwd_0_7_1) (by simp) (by simp) (by simp) (by simp) (fun k hk => HL1.out k)).mono ?_
                rintro e wd_0_7_1_6 ⟨hg6, b6⟩
                have Bwd_0_7_1_6 := Bwd_0_7_1.trans (b6.mono Bwd_0_7_1.size)
                have G6 := Lib.hid hg6
                obtain ⟨ra, fa, ca, sra, rc, fc, cc, src, rfl, hi6⟩ := hg6.is
                rw [← HLE.out.1, ← HLE.out.2.1, ← HLE.out.2.2] at hi6
                rw [← HLE.out.1, ← HLE.out.2.1, ← HLE.out.2.2]
                rw [← HLE.out.1, ← HLE.out.2.1, ← HLE.out.2.2] at G6
                have I6 := Lib.hid hi6
                have Z := Lib.hid (Z.out.below b6)
                have HG6 : wd_0.heap.size < wd_0_7_1.heap.size := HGlt
                have HGlt := Nat.lt_of_lt_of_le HGlt b6.size
                clear hi6 hg6 b6
                go_wp2_with fail
                refine hK.out _ _ ?_ (fun hHeld2 => ?_)
                · (try dsimp only)
                  all_goals exact True.intro
                clear hK K hHeld
                have hHeld := hHeld2
                clear hHeld2
                (try simp only [Act.put, List.setIfInBounds_toArray, List.set_cons_zero, List.set_cons_succ])
                obtain ⟨zf, zc⟩ := zero_at Z.out
                have z0 := zf 0
                have z1 := zf 1
                have z2 := zf 2
                have z3 := zf 3
                have v0 := zc 0 (by omega)
                have v1 := zc 1 (by omega)
                have v2 := zc 2 (by omega)
                have v3 := zc 3 (by omega)
                clear zf zc
                refine wpAnyH_ready (rs := [8]) (by kernel_rfl) (by simp) ?_
                refine AllReadyH.cons (toArr_get _ 8 _ rfl) (fun K hK => ?_) ?_
                · go_simp
                  refine hK.out _ _ ?_ (fun hHeld2 => ?_)
                  · (try dsimp only)
                    all_goals exact True.intro
                  clear hK K hHeld
                  have hHeld := hHeld2
                  clear hHeld2
                  (try simp only [Act.put, List.setIfInBounds_toArray, List.set_cons_zero, List.set_cons_succ])
                  refine wpAnyH_done (by kernel_rfl) ?_ _
                  refine NoPanic.normal ?_
                  have Z4 := Lib.hid ((((Z.out.set (m := 0) (by omega) (.slice ra LN rc)).set (m := 1) (by omega) (.slice fa LM fc)).set (m := 2) (by omega) (.slice ca LN cc)).set (m := 3) (by omega) (.slice sra LS src))
                  have BF := Lib.hid ((((Bwd_0_7_1_6.setCell (p := ⟨wd_0.heap.size, 0, none⟩) (Bwd_0.size) (.slice ra LN rc)).setCell (p := ⟨wd_0.heap.size, 1, none⟩) (Bwd_0.size) (.slice fa LM fc)).setCell (p := ⟨wd_0.heap.size, 2, none⟩) (Bwd_0.size) (.slice ca LN cc)).setCell (p := ⟨wd_0.heap.size, 3, none⟩) (Bwd_0.size) (.slice sra LS src))
                  have IF := Lib.hid (I6.out.other HG6 G6.out (.slice ra LN rc) (.slice fa LM fc) (.slice ca LN cc) (.slice sra LS src))
                  go_wp2_with fail
                  go_meet
                  exact ⟨wd_0.heap.size, ra, fa, ca, sra, cc, src, rfl, (zero_at Z4.out).2 2 (by omega), (zero_at Z4.out).2 3 (by omega), by simpa [World.setCell] using HGlt, IF.out, BF.out⟩
                exact AllReadyH.nil
              exact AllReadyH.nil
            exact AllReadyH.nil
          exact AllReadyH.nil
        refine AllReadyH.cons (toArr_get _ 1 _ rfl) (fun K hK => ?_) ?_
        · go_simp
          generalize hWx : World.alloc _ _ = wd_1
          have Bwd_1 : Below w1.heap.size w1 wd_1 := by rw [← hWx]; exact Bwd.alloc Bwd.size _
          clear hWx
          refine hK.out _ _ ?_ (fun hHeld2 => ?_)
          · (try dsimp only)
            all_goals exact True.intro
          clear hK K hHeld
          have hHeld := hHeld2
          clear hHeld2
          (try simp only [Act.put, List.setIfInBounds_toArray, List.set_cons_zero, List.set_cons_succ])
          refine wpAnyH_ready (rs := [0, 7]) (by kernel_rfl) (by simp) ?_
          refine AllReadyH.cons (toArr_get _ 0 _ rfl) (fun K hK => ?_) ?_
          · go_simp
            generalize hWx : World.alloc _ _ = wd_1_0
            have Bwd_1_0 : Below w1.heap.size w1 wd_1_0 := by rw [← hWx]; exact Bwd_1.alloc Bwd_1.size _
            clear hWx
            refine hK.out _ _ ?_ (fun hHeld2 => ?_)
            · (try dsimp only)
              all_goals exact True.intro
            clear hK K hHeld
            have hHeld := hHeld2
            clear hHeld2
            (try simp only [Act.put, List.setIfInBounds_toArray, List.set_cons_zero, List.set_cons_succ])
            refine wpAnyH_ready (rs := [6, 7]) (by kernel_rfl) (by simp) ?_
            refine AllReadyH.cons (toArr_get _ 6 _ rfl) (fun K hK => ?_) ?_
            · go_simp
              refine (runServers_any _ _ _ _ _ _ _ _ ([] : List T3) ([] : List J4) [ab ss 0] [als.getD 0 []] _ (fun k t hk => by simp at hk) (fun k hk => absurd hk (Nat.not_lt_zero _)) (SA.out.1.below Bwd_1_0) (SA.out.2.below Bwd_1_0) (by simp) (by simp) (by simp) (by simp) (fun k hk => HL1.out k)).mono ?_
              rintro e wd_1_0_6 ⟨hg6, b6⟩
              have Bwd_1_0_6 := Bwd_1_0.trans (b6.mono Bwd_1_0.size)
              have G6 := Lib.hid hg6
              obtain ⟨ra, fa, ca, sra, rc, fc, cc, src, rfl, hi6⟩ := hg6.is
              rw [← HLE.out.1, ← HLE.out.2.1, ← HLE.out.2.2] at hi6
              rw [← HLE.out.1, ← HLE.out.2.1, ← HLE.out.2.2]
              rw [← HLE.out.1, ← HLE.out.2.1, ← HLE.out.2.2] at G6
              have I6 := Lib.hid hi6
              clear hi6 hg6 b6
              go_wp2_with fail
              refine hK.out _ _ ?_ (fun hHeld2 => ?_)
              · (try dsimp only)
                all_goals exact True.intro
              clear hK K hHeld
              have hHeld := hHeld2
              clear hHeld2
              (try simp only [Act.put, List.setIfInBounds_toArray, List.set_cons_zero, List.set_cons_succ])
              refine wpAnyH_ready (rs := [7]) (by kernel_rfl) (by simp) ?_
              refine AllReadyH.cons (toArr_get _ 7 _ rfl) (fun K hK => ?_) ?_
              · go_simp
                generalize hWx : World.alloc _ _ = wd_1_0_6_7
                have Bwd_1_0_6_7 : Below w1.heap.size w1 wd_1_0_6_7 := by rw [← hWx]; exact Bwd_1_0_6.alloc Bwd_1_0_6.size _
                have Z := Lib.hid (show OwnF 52 4 wd_1_0_6_7 wd_1_0_6.heap.size (.slice (some ⟨wd_1_0_6.heap.size, 0, none⟩) 1 1) 1 (fun _ => .slice none 0 0) by
                  rw [← hWx]
                  exact own_box wd_1_0_6 _ 4 #[.slice none 0 0, .slice none 0 0, .slice none 0 0, .slice none 0 0] _ rfl (fun c hc => by
                    match c, hc with
                    | 0, _ | 1, _ | 2, _ | 3, _ => rfl))
                have HGlt : wd_1_0_6.heap.size < wd_1_0_6_7.heap.size := by rw [← hWx]; simp
                have Bnew : Below wd_1_0_6.heap.size wd_1_0_6 wd_1_0_6_7 := by rw [← hWx]; exact below_box _ _
                clear hWx
                refine hK.out _ _ ?_ (fun hHeld2 => ?_)
                · (try dsimp only)
                  all_goals exact True.intro
                clear hK K hHeld
                have hHeld := hHeld2
                clear hHeld2
                (try simp only [Act.put, List.setIfInBounds_toArray, List.set_cons_zero, List.set_cons_succ])
                obtain ⟨zf, zc⟩ := zero_at Z.out
                have z0 := zf 0
                have z1 := zf 1
                have z2 := zf 2
                have z3 := zf 3
                have v0 := zc 0 (by omega)
                have v1 := zc 1 (by omega)
                have v2 := zc 2 (by omega)
                have v3 := zc 3 (by omega)
                clear zf zc
                refine wpAnyH_ready (rs := [8]) (by kernel_rfl) (by simp) ?_
                refine AllReadyH.cons (toArr_get _ 8 _ rfl) (fun K hK => ?_) ?_
                · go_simp
                  refine hK.out _ _ ?_ (fun hHeld2 => ?_)
                  · (try dsimp only)
                    all_goals exact True.intro
                  clear hK K hHeld
                  have hHeld := hHeld2
                  clear hHeld2
                  (try simp only [Act.put, List.setIfInBounds_toArray, List.set_cons_zero, List.set_cons_succ])
                  refine wpAnyH_done (by kernel_rfl) ?_ _
                  refine NoPanic.normal ?_
                  have Z4 := Lib.hid ((((Z.out.set (m := 0) (by omega) (.slice ra LN rc)).set (m := 1) (by omega) (.slice fa LM fc)).set (m := 2) (by omega) (.slice ca LN cc)).set (m := 3) (by omega) (.slice sra LS src))
                  have BF := Lib.hid ((((Bwd_1_0_6_7.setCell (p := ⟨wd_1_0_6.heap.size, 0, none⟩) (Bwd_1_0_6.size) (.slice ra LN rc)).setCell (p := ⟨wd_1_0_6.heap.size, 1, none⟩) (Bwd_1_0_6.size) (.slice fa LM fc)).setCell (p := ⟨wd_1_0_6.heap.size, 2, none⟩) (Bwd_1_0_6.size) (.slice ca LN cc)).setCell (p := ⟨wd_1_0_6.heap.size, 3, none⟩) (Bwd_1_0_6.size) (.slice sra LS src))
                  have IF := Lib.hid (I6.out.below ((((Bnew.setCell (p := ⟨wd_1_0_6.heap.size, 0, none⟩) (Nat.le_refl _) (.slice ra LN rc)).setCell (p := ⟨wd_1_0_6.heap.size, 1, none⟩) (Nat.le_refl _) (.slice fa LM fc)).setCell (p := ⟨wd_1_0_6.heap.size, 2, none⟩) (Nat.le_refl _) (.slice ca LN cc)).setCell (p := ⟨wd_1_0_6.heap.size, 3, none⟩) (Nat.le_refl _) (.slice sra LS src)))
                  go_wp2_with fail
                  go_meet
                  exact ⟨wd_1_0_6.heap.size, ra, fa, ca, sra, cc, src, rfl, (zero_at Z4.out).2 2 (by omega), (zero_at Z4.out).2 3 (by omega), by simpa [World.setCell] using HGlt, IF.out, BF.out⟩
                exact AllReadyH.nil
              exact AllReadyH.nil
            refine AllReadyH.cons (toArr_get _ 7 _ rfl) (fun K hK => ?_) ?_
            · go_simp
              generalize hWx : World.alloc _ _ = wd_1_0_7
              have Bwd_1_0_7 : Below w1.heap.size w1 wd_1_0_7 := by rw [← hWx]; exact Bwd_1_0.alloc Bwd_1_0.size _
              have Z := Lib.hid (show OwnF 52 4 wd_1_0_7 wd_1_0.heap.size (.slice (some ⟨wd_1_0.heap.size, 0, none⟩) 1 1) 1 (fun _ => .slice none 0 0) by
                rw [← hWx]
                exact own_box wd_1_0 _ 4 #[.slice none 0 0, .slice none 0 0, .slice none 0 0, .slice none 0 0] _ rfl (fun c hc => by
                  match c, hc with
                  | 0, _ | 1, _ | 2, _ | 3, _ => rfl))
              have HGlt : wd_1_0.heap.size < wd_1_0_7.heap.size := by rw [← hWx]; simp
              clear hWx
              refine hK.out _ _ ?_ (fun hHeld2 => ?_)
              · (try dsimp only)
                all_goals exact True.intro
              clear hK K hHeld
              have hHeld := hHeld2
              clear hHeld2
              (try simp only [Act.put, List.setIfInBounds_toArray, List.set_cons_zero, List.set_cons_succ])
              refine wpAnyH_ready (rs := [6]) (by kernel_rfl) (by simp) ?_
              refine AllReadyH.cons (toArr_get _ 6 _ rfl) (fun K hK => ?_) ?_
              · go_simp
                refine (runServers_any _ _ _ _ _ _ _ _ ([] : List T3) ([] : List J4) [ab ss 0] [als.getD 0 []] _ (fun k t hk => by simp at hk) (fun k hk => absurd hk (Nat.not_lt_zero _)) (SA.out.1.below Bwd_1_0_7) (SA.out.2.below Bwd_1_0_7) (by simp) (by simp) (by simp) (by simp) (fun k hk => HL1.out k)).mono ?_
                rintro e wd_1_0_7_6 ⟨hg6, b6⟩
                have Bwd_1_0_7_6 := Bwd_1_0_7.trans (b6.mono Bwd_1_0_7.size)
                have G6 := Lib.hid hg6
                obtain ⟨ra, fa, ca, sra, rc, fc, cc, src, rfl, hi6⟩ := hg6.is
                rw [← HLE.out.1, ← HLE.out.2.1, ← HLE.out.2.2] at hi6
                rw [← HLE.out.1, ← HLE.out.2.1, ← HLE.out.2.2]
                rw [← HLE.out.1, ← HLE.out.2.1, ← HLE.out.2.2] at G6
                have I6 := Lib.hid hi6
                have Z := Lib.hid (Z.out.below b6)
                have HG6 : wd_1_0.heap.size < wd_1_0_7.heap.size := HGlt
                have HGlt := Nat.lt_of_lt_of_le HGlt b6.size
                clear hi6 hg6 b6
                go_wp2_with fail
                refine hK.out _ _ ?_ (fun hHeld2 => ?_)
                · (try dsimp only)
                  all_goals exact True.intro
                clear hK K hHeld
                have hHeld := hHeld2
                clear hHeld2
                (try simp only [Act.put, List.setIfInBounds_toArray, List.set_cons_zero, List.set_cons_succ])
                obtain ⟨zf, zc⟩ := zero_at Z.out
                have z0 := zf 0
                have z1 := zf 1
                have z2 := zf 2
                have z3 := zf 3
                have v0 := zc 0 (by omega)
                have v1 := zc 1 (by omega)
                have v2 := zc 2 (by omega)
                have v3 := zc 3 (by omega)
                clear zf zc
                refine wpAnyH_ready (rs := [8]) (by kernel_rfl) (by simp) ?_
                refine AllReadyH.cons (toArr_get _ 8 _ rfl) (fun K hK => ?_) ?_
                · go_simp
                  refine hK.out _ _ ?_ (fun hHeld2 => ?_)
                  · (try dsimp only)
                    all_goals exact True.intro
                  clear hK K hHeld
                  have hHeld := hHeld2
                  clear hHeld2
                  (try simp only [Act.put, List.setIfInBounds_toArray, List.set_cons_zero, List.set_cons_succ])
                  refine wpAnyH_done (by kernel_rfl) ?_ _
                  refine NoPanic.normal ?_
                  have Z4 := Lib.hid ((((Z.out.set (m := 0) (by omega) (.slice ra LN rc)).set (m := 1) (by omega) (.slice fa LM fc)).set (m := 2) (by omega) (.slice ca LN cc)).set (m := 3) (by omega) (.slice sra LS src))
                  have BF := Lib.hid ((((Bwd_1_0_7_6.setCell (p := ⟨wd_1_0.heap.size, 0, none⟩) (Bwd_1_0.size) (.slice ra LN rc)).setCell (p := ⟨wd_1_0.heap.size, 1, none⟩) (Bwd_1_0.size) (.slice fa LM fc)).setCell (p := ⟨wd_1_0.heap.size, 2, none⟩) (Bwd_1_0.size) (.slice ca LN cc)).setCell (p := ⟨wd_1_0.heap.size, 3, none⟩) (Bwd_1_0.size) (.slice sra LS src))
                  have IF := Lib.hid (I6.out.other HG6 G6.out (.slice ra LN rc) (.slice fa LM fc) (.slice ca LN cc) (.slice sra LS src))
                  go_wp2_with fail
                  go_meet
                  exact ⟨wd_1_0.heap.size, ra, fa, ca, sra, cc, src, rfl, (zero_at Z4.out).2 2 (by omega), (zero_at Z4.out).2 3 (by omega), by simpa [World.setCell] using HGlt, IF.out, BF.out⟩
                exact AllReadyH.nil
              exact AllReadyH.nil
            exact AllReadyH.nil
          refine AllReadyH.cons (toArr_get _ 7 _ rfl) (fun K hK => ?_) ?_
          · go_simp
            generalize hWx : World.alloc _ _ = wd_1_7
            have Bwd_1_7 : Below w1.heap.size w1 wd_1_7 := by rw [← hWx]; exact Bwd_1.alloc Bwd_1.size _
            have Z := Lib.hid (show OwnF 52 4 wd_1_7 wd_1.heap.size (.slice (some ⟨wd_1.heap.size, 0, none⟩) 1 1) 1 (fun _ => .slice none 0 0) by
              rw [← hWx]
              exact own_box wd_1 _ 4 #[.slice none 0 0, .slice none 0 0, .slice none 0 0, .slice none 0 0] _ rfl (fun c hc => by
                match c, hc with
                | 0, _ | 1, _ | 2, _ | 3, _ => rfl))
            have HGlt : wd_1.heap.size < wd_1_7.heap.size := by rw [← hWx]; simp
            clear hWx
            refine hK.out _ _ ?_ (fun hHeld2 => ?_)
            · (try dsimp only)
              all_goals exact True.intro
            clear hK K hHeld
            have hHeld := hHeld2
            clear hHeld2
            (try simp only [Act.put, List.setIfInBounds_toArray, List.set_cons_zero, List.set_cons_succ])
            refine wpAnyH_ready (rs := [0]) (by kernel_rfl) (by simp) ?_
            refine AllReadyH.cons (toArr_get _ 0 _ rfl) (fun K hK => ?_) ?_
            · go_simp
              generalize hWx : World.alloc _ _ = wd_1_7_0
              have Bwd_1_7_0 : Below w1.heap.size w1 wd_1_7_0 := by rw [← hWx]; exact Bwd_1_7.alloc Bwd_1_7.size _
              have b0 : Below wd_1_7.heap.size wd_1_7 wd_1_7_0 := by rw [← hWx]; exact below_box _ _
              have Z := Lib.hid (Z.out.below b0)
              have HGlt := Nat.lt_of_lt_of_le HGlt b0.size
              clear hWx
              refine hK.out _ _ ?_ (fun hHeld2 => ?_)
              · (try dsimp only)
                all_goals exact True.intro
              clear hK K hHeld
              have hHeld := hHeld2
              clear hHeld2
              (try simp only [Act.put, List.setIfInBounds_toArray, List.set_cons_zero, List.set_cons_succ])
              refine wpAnyH_ready (rs := [6]) (by kernel_rfl) (by simp) ?_
              refine AllReadyH.cons (toArr_get _ 6 _ rfl) (fun K hK => ?_) ?_
              · go_simp
                refine (runServers_any _ _ _ _ _ _ _ _ ([] : List T3) ([] : List J4) [ab ss 0] [als.getD 0 []] _ (fun k t hk => by simp at hk) (fun k hk => absurd hk (Nat.not_lt_zero _)) (SA.out.1.below Bwd_1_7_0) (SA.out.2.below Bwd_1_7_0) (by simp) (by simp) (by simp) (by simp) (fun k hk => HL1.out k)).mono ?_
                rintro e wd_1_7_0_6 ⟨hg6, b6⟩
                have Bwd_1_7_0_6 := Bwd_1_7_0.trans (b6.mono Bwd_1_7_0.size)
                have G6 := Lib.hid hg6
                obtain ⟨ra, fa, ca, sra, rc, fc, cc, src, rfl, hi6⟩ := hg6.is
                rw [← HLE.out.1, ← HLE.out.2.1, ← HLE.out.2.2] at hi6
                rw [← HLE.out.1, ← HLE.out.2.1, ← HLE.out.2.2]
                rw [← HLE.out.1, ← HLE.out.2.1, ← HLE.out.2.2] at G6
                have I6 := Lib.hid hi6
                have Z := Lib.hid (Z.out.below b6)
                have HG6 : wd_1.heap.size < wd_1_7_0.heap.size := HGlt
                have HGlt := Nat.lt_of_lt_of_le HGlt b6.size
                clear hi6 hg6 b6
                go_wp2_with fail
                refine hK.out _ _ ?_ (fun hHeld2 => ?_)
                · (try dsimp only)
                  all_goals exact True.intro
                clear hK K hHeld
                have hHeld := hHeld2
                clear hHeld2
                (try simp only [Act.put, List.setIfInBounds_toArray, List.set_cons_zero, List.set_cons_succ])
                obtain ⟨zf, zc⟩ := zero_at Z.out
                have z0 := zf 0
                have z1 := zf 1
                have z2 := zf 2
                have z3 := zf 3
                have v0 := zc 0 (by omega)
                have v1 := zc 1 (by omega)
                have v2 := zc 2 (by omega)
                have v3 := zc 3 (by omega)
                clear zf zc
                refine wpAnyH_ready (rs := [8]) (by kernel_rfl) (by simp) ?_
                refine AllReadyH.cons (toArr_get _ 8 _ rfl) (fun K hK => ?_) ?_
                · go_simp
                  refine hK.out _ _ ?_ (fun hHeld2 => ?_)
                  · (try dsimp only)
                    all_goals exact True.intro
                  clear hK K hHeld
                  have hHeld := hHeld2
                  clear hHeld2
                  (try simp only [Act.put, List.setIfInBounds_toArray, List.set_cons_zero, List.set_cons_succ])
                  refine wpAnyH_done (by kernel_rfl) ?_ _
                  refine NoPanic.normal ?_
                  have Z4 := Lib.hid ((((Z.out.set (m := 0) (by omega) (.slice ra LN rc)).set (m := 1) (by omega) (.slice fa LM fc)).set (m := 2) (by omega) (.slice ca LN cc)).set (m := 3) (by omega) (.slice sra LS src))
                  have BF := Lib.hid ((((Bwd_1_7_0_6.setCell (p := ⟨wd_1.heap.size, 0, none⟩) (Bwd_1.size) (.slice ra LN rc)).setCell (p := ⟨wd_1.heap.size, 1, none⟩) (Bwd_1.size) (.slice fa LM fc)).setCell (p := ⟨wd_1.heap.size, 2, none⟩) (Bwd_1.size) (.slice ca LN cc)).setCell (p := ⟨wd_1.heap.size, 3, none⟩) (Bwd_1.size) (.slice sra LS src))
                  have IF := Lib.hid (I6.out.other HG6 G6.out (.slice ra LN rc) (.slice fa LM fc) (.slice ca LN cc) (.slice sra LS src))
                  go_wp2_with fail
                  go_meet
                  exact ⟨wd_1.heap.size, ra, fa, ca, sra, cc, src, rfl, (zero_at Z4.out).2 2 (by omega), (zero_at Z4.out).2 3 (by omega), by simpa [World.setCell] using HGlt, IF.out, BF.out⟩
                exact AllReadyH.nil
              exact AllReadyH.nil
            exact AllReadyH.nil
          exact AllReadyH.nil
        refine AllReadyH.cons (toArr_get _ 7 _ rfl) (fun K hK => ?_) ?_
        · go_simp
          generalize hWx : World.alloc _ _ = wd_7
          have Bwd_7 : Below w1.heap.size w1 wd_7 := by rw [← hWx]; exact Bwd.alloc Bwd.size _
          have Z := Lib.hid (show OwnF 52 4 wd_7 wd.heap.size (.slice (some ⟨wd.heap.size, 0, none⟩) 1 1) 1 (fun _ => .slice none 0 0) by
            rw [← hWx]
            exact own_box wd _ 4 #[.slice none 0 0, .slice none 0 0, .slice none 0 0, .slice none 0 0] _ rfl (fun c hc => by
              match c, hc with
              | 0, _ | 1, _ | 2, _ | 3, _ => rfl))
          have HGlt : wd.heap.size < wd_7.heap.size := by rw [← hWx]; simp
          clear hWx
          refine hK.out _ _ ?_ (fun hHeld2 => ?_)
          · (try dsimp only)
            all_goals exact True.intro
          clear hK K hHeld
          have hHeld := hHeld2
          clear hHeld2
          (try simp only [Act.put, List.setIfInBounds_toArray, List.set_cons_zero, List.set_cons_succ])
          refine wpAnyH_ready (rs := [0, 1]) (by kernel_rfl) (by simp) ?_
          refine AllReadyH.cons (toArr_get _ 0 _ rfl) (fun K hK => ?_) ?_
          · go_simp
            generalize hWx : World.alloc _ _ = wd_7_0
            have Bwd_7_0 : Below w1.heap.size w1 wd_7_0 := by rw [← hWx]; exact Bwd_7.alloc Bwd_7.size _
            have b0 : Below wd_7.heap.size wd_7 wd_7_0 := by rw [← hWx]; exact below_box _ _
            have Z := Lib.hid (Z.out.below b0)
            have HGlt := Nat.lt_of_lt_of_le HGlt b0.size
            clear hWx
            refine hK.out _ _ ?_ (fun hHeld2 => ?_)
            · (try dsimp only)
              all_goals exact True.intro
            clear hK K hHeld
            have hHeld := hHeld2
            clear hHeld2
            (try simp only [Act.put, List.setIfInBounds_toArray, List.set_cons_zero, List.set_cons_succ])
            refine wpAnyH_ready (rs := [1]) (by kernel_rfl) (by simp) ?_
            refine AllReadyH.cons (toArr_get _ 1 _ rfl) (fun K hK => ?_) ?_
            · go_simp
              generalize hWx : World.alloc _ _ = wd_7_0_1
              have Bwd_7_0_1 : Below w1.heap.size w1 wd_7_0_1 := by rw [← hWx]; exact Bwd_7_0.alloc Bwd_7_0.size _
              have b0 : Below wd_7_0.heap.size wd_7_0 wd_7_0_1 := by rw [← hWx]; exact below_box _ _
              have Z := Lib.hid (Z.out.below b0)
              have HGlt := Nat.lt_of_lt_of_le HGlt b0.size
              clear hWx
              refine hK.out _ _ ?_ (fun hHeld2 => ?_)
              · (try dsimp only)
                all_goals exact True.intro
              clear hK K hHeld
              have hHeld := hHeld2
              clear hHeld2
              (try simp only [Act.put, List.setIfInBounds_toArray, List.set_cons_zero, List.set_cons_succ])
              refine wpAnyH_ready (rs := [6]) (by kernel_rfl) (by simp) ?_
              refine AllReadyH.cons (toArr_get _ 6 _ rfl) (fun K hK => ?_) ?_
              · go_simp
                refine (runServers_any _ _ _ _ _ _ _ _ ([] : List T3) ([] : List J4) [ab ss 0] [als.getD 0 []] _ (fun k t hk => by simp at hk) (fun k hk => absurd hk (Nat.not_lt_zero _)) (SA.out.1.below Bwd_7_0_1) (SA.out.2.below Bwd_7_0_1) (by simp) (by simp) (by simp) (by simp) (fun k hk => HL1.out k)).mono ?_
                rintro e wd_7_0_1_6 ⟨hg6, b6⟩
                have Bwd_7_0_1_6 := Bwd_7_0_1.trans (b6.mono Bwd_7_0_1.size)
                have G6 := Lib.hid hg6
                obtain ⟨ra, fa, ca, sra, rc, fc, cc, src, rfl, hi6⟩ := hg6.is
                rw [← HLE.out.1, ← HLE.out.2.1, ← HLE.out.2.2] at hi6
                rw [← HLE.out.1, ← HLE.out.2.1, ← HLE.out.2.2]
                rw [← HLE.out.1, ← HLE.out.2.1, ← HLE.out.2.2] at G6
                have I6 := Lib.hid hi6
                have Z := Lib.hid (Z.out.below b6)
                have HG6 : wd.heap.size < wd_7_0_1.heap.size := HGlt
                have HGlt := Nat.lt_of_lt_of_le HGlt b6.size
                clear hi6 hg6 b6
                go_wp2_with fail
                refine hK.out _ _ ?_ (fun hHeld2 => ?_)
                · (try dsimp only)
                  all_goals exact True.intro
                clear hK K hHeld
                have hHeld := hHeld2
                clear hHeld2
                (try simp only [Act.put, List.setIfInBounds_toArray, List.set_cons_zero, List.set_cons_succ])
                obtain ⟨zf, zc⟩ := zero_at Z.out
                have z0 := zf 0
                have z1 := zf 1
                have z2 := zf 2
                have z3 := zf 3
                have v0 := zc 0 (by omega)
                have v1 := zc 1 (by omega)
                have v2 := zc 2 (by omega)
                have v3 := zc 3 (by omega)
                clear zf zc
                refine wpAnyH_ready (rs := [8]) (by kernel_rfl) (by simp) ?_
                refine AllReadyH.cons (toArr_get _ 8 _ rfl) (fun K hK => ?_) ?_
                · go_simp
                  refine hK.out _ _ ?_ (fun hHeld2 => ?_)
                  · (try dsimp only)
                    all_goals exact True.intro
                  clear hK K hHeld
                  have hHeld := hHeld2
                  clear hHeld2
                  (try simp only [Act.put, List.setIfInBounds_toArray, List.set_cons_zero, List.set_cons_succ])
                  refine wpAnyH_done (by kernel_rfl) ?_ _
                  refine NoPanic.normal ?_
                  have Z4 := Lib.hid ((((Z.out.set (m := 0) (by omega) (.slice ra LN rc)).set (m := 1) (by omega) (.slice fa LM fc)).set (m := 2) (by omega) (.slice ca LN cc)).set (m := 3) (by omega) (.slice sra LS src))
                  have BF := Lib.hid ((((Bwd_7_0_1_6.setCell (p := ⟨wd.heap.size, 0, none⟩) (Bwd.size) (.slice ra LN rc)).setCell (p := ⟨wd.heap.size, 1, none⟩) (Bwd.size) (.slice fa LM fc)).setCell (p := ⟨wd.heap.size, 2, none⟩) (Bwd.size) (.slice ca LN cc)).setCell (p := ⟨wd.heap.size, 3, none⟩) (Bwd.size) (.slice sra LS src))
                  have IF := Lib.hid (I6.out.other HG6 G6.out (.slice ra LN rc) (.slice fa LM fc) (.slice ca LN cc) (.slice sra LS src))
                  go_wp2_with fail
                  go_meet
                  exact ⟨wd.heap.size, ra, fa, ca, sra, cc, src, rfl, (zero_at Z4.out).2 2 (by omega), (zero_at Z4.out).2 3 (by omega), by simpa [World.setCell] using HGlt, IF.out, BF.out⟩
                exact AllReadyH.nil
              exact AllReadyH.nil
            exact AllReadyH.nil
          refine AllReadyH.cons (toArr_get _ 1 _ rfl) (fun K hK => ?_) ?_
          · go_simp
            generalize hWx : World.alloc _ _ = wd_7_1
            have Bwd_7_1 : Below w1.heap.size w1 wd_7_1 := by rw [← hWx]; exact Bwd_7.alloc Bwd_7.size _
            have b0 : Below wd_7.heap.size wd_7 wd_7_1 := by rw [← hWx]; exact below_box _ _
            have Z := Lib.hid (Z.out.below b0)
            have HGlt := Nat.lt_of_lt_of_le HGlt b0.size
            clear hWx
            refine hK.out _ _ ?_ (fun hHeld2 => ?_)
            · (try dsimp only)
              all_goals exact True.intro
            clear hK K hHeld
            have hHeld := hHeld2
            clear hHeld2
            (try simp only [Act.put, List.setIfInBounds_toArray, List.set_cons_zero, List.set_cons_succ])
            refine wpAnyH_ready (rs := [0]) (by kernel_rfl) (by simp) ?_
            refine AllReadyH.cons (toArr_get _ 0 _ rfl) (fun K hK => ?_) ?_
            · go_simp
              generalize hWx : World.alloc _ _ = wd_7_1_0
              have Bwd_7_1_0 : Below w1.heap.size w1 wd_7_1_0 := by rw [← hWx]; exact Bwd_7_1.alloc Bwd_7_1.size _
              have b0 : Below wd_7_1.heap.size wd_7_1 wd_7_1_0 := by rw [← hWx]; exact below_box _ _
              have Z := Lib.hid (Z.out.below b0)
              have HGlt := Nat.lt_of_lt_of_le HGlt b0.size
              clear hWx
              refine hK.out _ _ ?_ (fun hHeld2 => ?_)
              · (try dsimp only)
                all_goals exact True.intro
              clear hK K hHeld
              have hHeld := hHeld2
              clear hHeld2
              (try simp only [Act.put, List.setIfInBounds_toArray, List.set_cons_zero, List.set_cons_succ])
              refine wpAnyH_ready (rs := [6]) (by kernel_rfl) (by simp) ?_
              refine AllReadyH.cons (toArr_get _ 6 _ rfl) (fun K hK => ?_) ?_
              · go_simp
                refine (runServers_any _ _ _ _ _ _ _ _ ([] : List T3) ([] : List J4) [ab ss 0] [als.getD 0 []] _ (fun k t hk => by simp at hk) (fun k hk => absurd hk (Nat.not_lt_zero _)) (SA.out.1.below Bwd_7_1_0) (SA.out.2.below Bwd_7_1_0) (by simp) (by simp) (by simp) (by simp) (fun k hk => HL1.out k)).mono ?_
                rintro e wd_7_1_0_6 ⟨hg6, b6⟩
                have Bwd_7_1_0_6 := Bwd_7_1_0.trans (b6.mono Bwd_7_1_0.size)
                have G6 := Lib.hid hg6
                obtain ⟨ra, fa, ca, sra, rc, fc, cc, src, rfl, hi6⟩ := hg6.is
                rw [← HLE.out.1, ← HLE.out.2.1, ← HLE.out.2.2] at hi6
                rw [← HLE.out.1, ← HLE.out.2.1, ← HLE.out.2.2]
                rw [← HLE.out.1, ← HLE.out.2.1, ← HLE.out.2.2] at G6
                have I6 := Lib.hid hi6
                have Z := Lib.hid (Z.out.below b6)
                have HG6 : wd.heap.size < wd_7_1_0.heap.size := HGlt
                have HGlt := Nat.lt_of_lt_of_le HGlt b6.size
                clear hi6 hg6 b6
                go_wp2_with fail
                refine hK.out _ _ ?_ (fun hHeld2 => ?_)
                · (try dsimp only)
                  all_goals exact True.intro
                clear hK K hHeld
                have hHeld := hHeld2
                clear hHeld2
                (try simp only [Act.put, List.setIfInBounds_toArray, List.set_cons_zero, List.set_cons_succ])
                obtain ⟨zf, zc⟩ := zero_at Z.out
                have z0 := zf 0
                have z1 := zf 1
                have z2 := zf 2
                have z3 := zf 3
                have v0 := zc 0 (by omega)
                have v1 := zc 1 (by omega)
                have v2 := zc 2 (by omega)
                have v3 := zc 3 (by omega)
                clear zf zc
                refine wpAnyH_ready (rs := [8]) (by kernel_rfl) (by simp) ?_
                refine AllReadyH.cons (toArr_get _ 8 _ rfl) (fun K hK => ?_) ?_
                · go_simp
                  refine hK.out _ _ ?_ (fun hHeld2 => ?_)
                  · (try dsimp only)
                    all_goals exact True.intro
                  clear hK K hHeld
                  have hHeld := hHeld2
                  clear hHeld2
                  (try simp only [Act.put, List.setIfInBounds_toArray, List.set_cons_zero, List.set_cons_succ])
                  refine wpAnyH_done (by kernel_rfl) ?_ _
                  refine NoPanic.normal ?_
                  have Z4 := Lib.hid ((((Z.out.set (m := 0) (by omega) (.slice ra LN rc)).set (m := 1) (by omega) (.slice fa LM fc)).set (m := 2) (by omega) (.slice ca LN cc)).set (m := 3) (by omega) (.slice sra LS src))
                  have BF := Lib.hid ((((Bwd_7_1_0_6.setCell (p := ⟨wd.heap.size, 0, none⟩) (Bwd.size) (.slice ra LN rc)).setCell (p := ⟨wd.heap.size, 1, none⟩) (Bwd.size) (.slice fa LM fc)).setCell (p := ⟨wd.heap.size, 2, none⟩) (Bwd.size) (.slice ca LN cc)).setCell (p := ⟨wd.heap.size, 3, none⟩) (Bwd.size) (.slice sra LS src))
                  have IF := Lib.hid (I6.out.other HG6 G6.out (.slice ra LN rc) (.slice fa LM fc) (.slice ca LN cc) (.slice sra LS src))
                  go_wp2_with fail
                  go_meet
                  exact ⟨wd.heap.size, ra, fa, ca, sra, cc, src, rfl, (zero_at Z4.out).2 2 (by omega), (zero_at Z4.out).2 3 (by omega), by simpa [World.setCell] using HGlt, IF.out, BF.out⟩
                exact AllReadyH.nil
              exact AllReadyH.nil
            exact AllReadyH.nil
          exact AllReadyH.nil
        exact AllReadyH.nil
      case rest =>
        obtain ⟨gr, ra, fa, ca, sra, cc, src, rfl, x2, x3, hgr, hi, bx⟩ := hcut
        have BX := Lib.hid (B1.out.trans (bx.mono B1.out.size))
        have I := Lib.hid hi
        have SX := Lib.hid (And.intro (SA.out.1.below bx) (SA.out.2.below bx))
        obtain ⟨ba, oa, ad, dcap, ea, hba, d0', -, d2'⟩ := SX.out.2 0 (by simp)
        subst ea
        obtain ⟨AL, hAL⟩ : ∃ AL, AL = als.getD 0 [] := ⟨_, rfl⟩
        have d0 : wc.cell? ⟨ba, oa, none⟩ = some (.slice ad AL.length dcap) := by rw [hAL]; exact d0'
        have d2 : Row2 wc ad AL := by rw [hAL]; exact d2'
        have HD2 := Lib.hid d2
        have hALn : AL.length ≤ 21 := by rw [hAL]; exact H21.out 0
        have HAL := Lib.hid hAL
        clear bx hi d0' d2' d2 hAL
        cases hok : okS [] [] [ab ss 0] [als.getD 0 []] with
        | false =>
          have hLN : LN = 0 := by rw [HLE.out.1, lN, if_neg (by rw [hok]; simp)]
          rw [okS_one, ← HAL.out] at hok
          have HOK := Lib.hid hok
          subst hLN
          clear hok
          have h120 : ((0 : Int) != 120) = true := by decide
          go_wp2_with fail
          have HC := Lib.hid (show Calls Try.prog 16 #[.slice sa 1 scap] wc fun e w' => e = .returned (.bool (ssB [ab ss 0])) ∧ Below wc.heap.size wc w' from specServersValid_any sa scap [ab ss 0] _ SX.out.1 (by simp))
          refine HC.out.mono ?_
          rintro e w6 ⟨rfl, b6⟩
          have B6 := Lib.hid (BX.out.trans (b6.mono BX.out.size))
          have e0 := (b6.cell (p := ⟨ba, oa, none⟩) hba).trans d0
          have HD6 := Lib.hid (HD2.out.below b6)
          clear b6 HC
          cases hss : ssB [ab ss 0] with
          | false =>
            go_wp2_with fail
            refine (alive_any _).mono ?_
            rintro e w7 ⟨rfl, b7⟩
            go_wp2
            go_ret
            exact ⟨rfl, B6.out.trans (b7.mono B6.out.size)⟩
          | true =>
            have hal : alB AL = false := by have := HOK.out; rw [hss, Bool.true_and] at this; exact this
            have HAF := Lib.hid hal
            clear hss hal
            go_wp2_with fail
            refine (specArrivalsLegal_any _ _ AL _ HD6.out (by omega)).mono ?_
            rintro e w7 ⟨rfl, b7⟩
            rw [HAF.out]
            have B7 := Lib.hid (B6.out.trans (b7.mono B6.out.size))
            clear b7
            go_wp2_with fail
            refine (alive_any _).mono ?_
            rintro e w8 ⟨rfl, b8⟩
            go_wp2
            go_ret
            exact ⟨rfl, B7.out.trans (b8.mono B7.out.size)⟩
        | true =>
          have hLN : LN = 120 := by rw [HLE.out.1, lN, if_pos hok]
          have hLS : LS = 1 := by rw [HLE.out.2.2, lS, if_pos hok]; rfl
          subst hLN
          subst hLS
          have hok2 := hok
          rw [okS_one, ← HAL.out, Bool.and_eq_true] at hok2
          obtain ⟨hssv, halv⟩ := hok2
          obtain ⟨C, hC⟩ : ∃ C, C = cbOf [] [ab ss 0] [als.getD 0 []] := ⟨_, rfl⟩
          obtain ⟨-, k2, k3, k4⟩ := okS_iff.1 hok
          have HSH := Lib.hid (show ∀ i, i < AL.length → C.dn 120 0 i = if Cb.bb AL i ≤ 120 then (Cb.bb AL i : Int) else -1 from fun i hi => by
            have hCal : C.al 0 = AL := by rw [hC, HAL.out]; rfl
            have hp12 : C.p 0 ≤ 12 := by rw [hC]; exact (ss_pos k2 (show 0 < [ab ss 0].length by simp)).2.2
            have h := Cb.share (C := C) (by rw [hC]; exact cb_ok [] k2 k3 k4) (by rw [hC]; rfl) (by rw [hC]; rfl) (by rw [hCal]; exact al_up halv) hp12 (by rw [hCal]; exact fun j hj => al_tm halv hj) (i := i) (by rw [hCal]; exact hi)
            rw [hCal] at h
            exact h)
          have HAV := Lib.hid halv
          obtain ⟨sb, so, ia, ic, es, hsb2, c1', c2'⟩ := I.out.s 0 (by omega)
          subst es
          have c1 : wc.cell? ⟨sb, so, none⟩ = some (.slice ia AL.length ic) := by rw [HAL.out]; exact c1'
          have c2 : IntF wc ia AL.length (C.dn 120 0) := by rw [HAL.out, hC]; exact c2'
          have HC2 := Lib.hid c2
          clear hok hssv halv hC k2 k3 k4 c2 c1' c2'
          go_wp2
          go_loopg [8, 9] AL.length (fun m s8 z wr => ∃ i : Nat, m + i = AL.length ∧ s8 = .int .i64 (nw AL i : Nat) ∧ z = .int .i64 i ∧ Below wc.heap.size wc wr)
          case atStart => exact ⟨0, by omega, rfl, rfl, Below.refl _ _⟩
          case round =>
            obtain ⟨i, hk, rfl, rfl, B⟩ := hrel
            have HK := Lib.hid hk
            have HBW := Lib.hid B
            have hii : i ≤ AL.length := by omega
            have y0 := (B.cell (p := ⟨ba, oa, none⟩) hba).trans d0
            have y1 := (B.cell (p := ⟨sb, so, none⟩) hsb2).trans c1
            have y3 := (B.cell (p := ⟨gr, 3, none⟩) hgr).trans x3
            clear hk B
            by_cases hilt : i < AL.length
            · have hi0 : (0 : Int) ≤ i := by omega
              have hi1 : (i : Int) < AL.length := by omega
              obtain ⟨bi, oi, ei, -, f1⟩ := (HC2.out.below HBW.out) i hilt
              subst ei
              obtain ⟨bd, od, ed, -, g0, g1⟩ := (HD2.out.below HBW.out) i hilt
              subst ed
              have hvi := (alB_iff.1 HAV.out).2 i hilt
              have e0 : (ab AL i).1 = (aT AL i : Nat) := by rw [ab_T]; omega
              have e1 : (ab AL i).2 = (aX AL i : Nat) := by rw [ab_X]; omega
              rw [e0] at g0
              rw [e1] at g1
              rw [HSH.out i hilt] at f1
              have hT : aT AL i ≤ 119 := al_tm HAV.out hilt
              have hXl : aX AL i ≤ 20 := al_x HAV.out hilt
              have hbb := bb_bd HAV.out hilt
              have hnb := nw_bb AL i
              obtain ⟨T, hT'⟩ : ∃ T, T = aT AL i := ⟨_, rfl⟩
              obtain ⟨X, hX'⟩ : ∃ X, X = aX AL i := ⟨_, rfl⟩
              obtain ⟨BB, hBB⟩ : ∃ BB, BB = Cb.bb AL i := ⟨_, rfl⟩
              obtain ⟨NW, hNW⟩ : ∃ NW, NW = nw AL i := ⟨_, rfl⟩
              rw [← hT'] at g0 hT hnb
              rw [← hX'] at g1 hXl hnb
              rw [← hBB] at f1 hbb hnb
              rw [← hNW] at hnb
              rw [← hNW]
              have HNS := Lib.hid (show nw AL (i + 1) = BB from hBB.symm)
              have hNl : NW ≤ 1000 := by omega
              clear e0 e1 hvi hT' hX' hBB hNW
              have hBl : BB ≤ 1000 := by omega
              by_cases hc : NW < T
              · have hc2 : (NW : Int) < T := by omega
                have hc3 : decide (NW < T) = true := decide_eq_true hc
                have hmx : (T : Int) + X = BB := by omega
                have hw : IntKind.i64.wrap ((T : Int) + X) = (BB : Int) := by rw [hmx]; exact IntWalk.i64_in _ (by omega)
                have HNB := Lib.hid hmx
                clear hnb hmx
                by_cases hb120 : BB ≤ 120
                · have hb1 : ¬ (120 : Int) < BB := by omega
                  rw [if_pos hb120] at f1
                  have hne : ((BB : Int) != (BB : Int)) = false := by simp
                  clear hb120
                  go_wp2
                  go_quiet (fail)
                  go_wp2
                  go_roundg (gk - 1)
                  case measure => have := HK.out; omega
                  case rel => exact ⟨i + 1, by have := HK.out; omega, by rw [HNS.out], by go_num, below_drewN' HBW.out _⟩
                · have hb1 : (120 : Int) < BB := by omega
                  rw [if_neg hb120] at f1
                  clear hb120
                  go_wp2
                  go_quiet (fail)
                  go_wp2
                  go_roundg (gk - 1)
                  case measure => have := HK.out; omega
                  case rel => exact ⟨i + 1, by have := HK.out; omega, by rw [HNS.out], by go_num, below_drewN' HBW.out _⟩
              · have hc2 : ¬ (NW : Int) < T := by omega
                have hc3 : decide (NW < T) = false := decide_eq_false hc
                have hmx : (NW : Int) + X = BB := by omega
                have hw : IntKind.i64.wrap ((NW : Int) + X) = (BB : Int) := by rw [hmx]; exact IntWalk.i64_in _ (by omega)
                have HNB := Lib.hid hmx
                clear hnb hmx
                by_cases hb120 : BB ≤ 120
                · have hb1 : ¬ (120 : Int) < BB := by omega
                  rw [if_pos hb120] at f1
                  have hne : ((BB : Int) != (BB : Int)) = false := by simp
                  clear hb120
                  go_wp2
                  go_quiet (fail)
                  go_wp2
                  go_roundg (gk - 1)
                  case measure => have := HK.out; omega
                  case rel => exact ⟨i + 1, by have := HK.out; omega, by rw [HNS.out], by go_num, below_drewN' HBW.out _⟩
                · have hb1 : (120 : Int) < BB := by omega
                  rw [if_neg hb120] at f1
                  clear hb120
                  go_wp2
                  go_quiet (fail)
                  go_wp2
                  go_roundg (gk - 1)
                  case measure => have := HK.out; omega
                  case rel => exact ⟨i + 1, by have := HK.out; omega, by rw [HNS.out], by go_num, below_drewN' HBW.out _⟩
            · obtain rfl : i = AL.length := by omega
              go_wp2
              go_ret
              exact ⟨rfl, BX.out.trans (HBW.out.mono BX.out.size)⟩

end Go.Proofs.Ytipnemngphglkaa
