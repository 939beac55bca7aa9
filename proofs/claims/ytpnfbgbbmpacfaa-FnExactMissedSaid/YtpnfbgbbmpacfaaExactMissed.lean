/- laws.FnExactMissed: for every list of jobs and every schedule (slices of whatever length, nil too, of whatever values) the program's Missed answers as the reference does, changes neither argument, and its answer is memory of its own; the law returns true and leaves its arguments as they were. No condition. -/
import Derived.Test.YtpnfbgbbmpacfaaRows
import Derived.Test.YtpnfbgbbmpacfaaMissImpl
import Derived.Test.YtpnfbgbbmpacfaaMark
import Derived.Test.YtpnfbgbbmpacfaaMarkI
import Derived.Test.YtpnfbgbbmpacfaaCopyJ
import Derived.Test.YtpnfbgbbmpacfaaCopyI
import Derived.Test.YtpnfbgbbmpacfaaHeapMem
import Derived.Test.YtpnfbgbbmpacfaaArgJ
namespace Go.Proofs.Ytpnfbgbbmpacfaa
open Go.ChangeShapes Go.WideShapes Go.ChangeAt Go.RowKit Go.Joins Go.Deep

/-- The schedule that came in lies in a box of its own, the reference's answer in v0. -/
structure XM (w W : World) (ra fa : Option Addr) (rl fl rc fc : Nat) (v0 : Value) (n0 b0 : Nat) (g : Nat → Int) : Prop where
  s0 : W.cell? ⟨w.heap.size, 0, none⟩ = some (.slice ra rl rc)
  s1 : W.cell? ⟨w.heap.size, 1, none⟩ = some (.slice fa fl fc)
  o0 : OwnI W b0 v0 n0 g
  bl : Below w.heap.size w W
variable {w W W' : World} {ra fa : Option Addr} {rl fl rc fc n0 b0 : Nat} {v0 : Value} {g : Nat → Int}
theorem XM.lt (h : XM w W ra fa rl fl rc fc v0 n0 b0 g) : w.heap.size < W.heap.size := World.block_lt_of_cell? W ⟨w.heap.size, 0, none⟩ h.s0
theorem XM.of (h : XM w W ra fa rl fl rc fc v0 n0 b0 g) (hb : Below w.heap.size w W') (hk : ∀ k, (k = w.heap.size ∨ v0.ownBlock = some k) → W'.heap[k]? = W.heap[k]?) : XM w W' ra fa rl fl rc fc v0 n0 b0 g :=
  ⟨(World.cell?_of_block (a := ⟨w.heap.size, 0, none⟩) (hk _ (.inl rfl))).trans h.s0, (World.cell?_of_block (a := ⟨w.heap.size, 1, none⟩) (hk _ (.inl rfl))).trans h.s1, h.o0.of_block fun k e => hk k (.inr e), hb⟩
theorem XM.below (h : XM w W ra fa rl fl rc fc v0 n0 b0 g) (hb : Below W.heap.size W W') : XM w W' ra fa rl fl rc fc v0 n0 b0 g :=
  h.of (h.bl.trans (hb.mono h.bl.size)) fun k hk => hb.block k (by rcases hk with rfl | e; exact h.lt; exact (h.o0.lt k e).2)
theorem XM.grown {row : Option Nat} (h : XM w W ra fa rl fl rc fc v0 n0 b0 g) (hg : W.grownBy W' row) (hr : ∀ k, row = some k → w.heap.size < k ∧ v0.ownBlock ≠ some k) : XM w W' ra fa rl fl rc fc v0 n0 b0 g :=
  h.of (h.bl.grown hg h.bl.size fun k hk => by have := (hr k hk).1; omega) fun k hk => hg.block k (by rcases hk with rfl | e; exact h.lt; exact (h.o0.lt k e).2) (fun e => by
    have := hr k e.symm
    rcases hk with rfl | e2
    · omega
    · exact this.2 e2)
theorem OwnI.gb {base n : Nat} {v : Value} {f : Nat → Int} {row : Option Nat} (h : OwnI W base v n f) (hg : W.grownBy W' row) (hr : ∀ k, v.ownBlock = some k → row ≠ some k) : OwnI W' base v n f :=
  h.of_block fun k hk => hg.block k (h.lt k hk).2 (fun e => hr k hk e.symm)
theorem lateL_all (n : Nat) (js : List J4) (f : Nat → Int) : (if n = js.length then lateL js f js.length else []).length ≤ js.length := by
  split
  · exact lateL_len js f js.length
  · exact Nat.zero_le _

set_option maxRecDepth 100000 in
set_option maxHeartbeats 8000000 in
/-- laws.FnExactMissed. -/
theorem fnExactMissed_any (ja : Option Addr) (jcap : Nat) (js : List J4) (ra fa : Option Addr) (rl fl rc fc : Nat) (rf ff : Nat → Int) (w : World) (hj : RowJ w ja js) (hjm : js.length ≤ maxLen) (hs : IntF w ra rl rf ∧ IntF w fa fl ff) (hsm : rl ≤ maxLen ∧ fl ≤ maxLen) :
    Calls Try.prog 13 #[.slice ja js.length jcap, .agg #[.slice ra rl rc, .slice fa fl fc]] w fun e w' =>
      e = .returned (.bool true) ∧ Below w.heap.size w w' := by
  have HJ := Lib.hid hj
  have HF := Lib.hid hs
  clear hj hs
  by_cases hn : js.length ≤ 1048576
  · have h0 : ¬ (1048576 - (js.length : Int) < 0) := by omega
    by_cases hl : rl + fl ≤ 1048576 - js.length
    · have hjn' : js.length ≤ 1099511627776 := by omega
      have hrl' : rl ≤ 1099511627776 := by omega
      have hfl' : fl ≤ 1099511627776 := by omega
      have hLl := lateL_all fl js ff
      obtain ⟨L, hL⟩ : ∃ L, L = if fl = js.length then lateL js ff js.length else [] := ⟨_, rfl⟩
      rw [← hL] at hLl
      have HL := Lib.hid hL
      clear hL
      go_enter Try.func13, Try.ntmps13
      go_wp2_with fail
      have J1048 : ((1048576 : Nat) : Int) = 1048576 := rfl
      refine (szJobS_small _ _ _ 1048576 _ hn (by omega)).mono ?_
      rintro e w' ⟨rfl, rfl⟩
      clear J1048
      rw [show (((1048576 : Nat) : Int)) - (js.length : Int) = ((1048576 - js.length : Nat) : Int) by omega]
      have h1 : ¬ ((1048576 - js.length : Nat) : Int) < 0 := by omega
      have X0 := Lib.hid (show XM w (w.alloc (.cells #[.slice ra rl rc, .slice fa fl fc] 63)) ra fa rl fl rc fc (.slice none 0 0) 0 0 (fun _ => 0) from ⟨by simp [go_sem], by simp [go_sem], OwnI.nil _ _ _, below_box _ _⟩)
      go_wp2_with fail
      refine (szSchedule_small _ _ _ _ _ _ (1048576 - js.length) _ hl (by omega)).mono ?_
      rintro e w1 ⟨rfl, b1⟩
      have X1 := Lib.hid (X0.out.below b1)
      have h2 : ¬ ((1048576 - js.length : Nat) : Int) - (rl : Int) - (fl : Int) < 0 := by omega
      clear X0 b1
      go_wp2_with fail
      clear h0 h1 h2
      have c10 := X1.out.s0
      have c11 := X1.out.s1
      refine wp_region_held_drew (S := fun w' => w'.cell? ⟨w.heap.size, 0, none⟩ = some (.slice ra rl rc) ∧ w'.cell? ⟨w.heap.size, 1, none⟩ = some (.slice fa fl fc)) (by kernel_rfl) ?_ (fun hHeld => ?_)
      · (try dsimp only)
        (first | exact True.intro | assumption | exact ⟨‹_›, ‹_›⟩ | (go_keep; done) | (simp [go_sem, *]; done))
      have Xd := Lib.hid (X1.out.below (Below.refl _ _).drew)
      have cd0 := Xd.out.s0
      have cd1 := Xd.out.s1
      clear X1
      refine wpAnyH_take (i := 0) (v := ?_) (toArr_get _ 0 _ rfl) (by kernel_rfl) (by kernel_rfl) (by kernel_rfl) (fun _ _ _ h => h) (Or.inl ⟨by rfl, ?_⟩) (by assumption) ?_
      rotate_left
      · (intro w hSw; (try dsimp only at hSw); go_simp; (try with_reducible rfl))
      (try simp only [Act.put, List.setIfInBounds_toArray, List.set_cons_zero, List.set_cons_succ])
      refine wpAnyH_take (i := 2) (v := ?_) (toArr_get _ 2 _ rfl) (by kernel_rfl) (by kernel_rfl) (by kernel_rfl) (fun _ _ _ h => h) (Or.inl ⟨by rfl, ?_⟩) (by assumption) ?_
      rotate_left
      · (intro w hSw; (try dsimp only at hSw); go_simp; (try with_reducible rfl))
      (try simp only [Act.put, List.setIfInBounds_toArray, List.set_cons_zero, List.set_cons_succ])
      refine wpAnyH_ready (rs := [1]) (by kernel_rfl) (by simp) ?_
      refine AllReadyH.cons (toArr_get _ 1 _ rfl) (fun K hK => ?_) ?_
      · go_simp
        go_at_call 39
        refine (toJobS_any _ _ _ _ (HJ.out.below Xd.out.bl) hjn').mono ?_
        rintro e w2 ⟨rfl, j2, b2⟩
        have T2 := Lib.hid j2.rowJ
        have X2 := Lib.hid (Xd.out.below b2)
        have c20 := X2.out.s0
        have c21 := X2.out.s1
        clear j2 b2 cd0 cd1 Xd
        go_wp2_with fail
        refine hK.out _ _ ?_ (fun hHeld2 => ?_)
        · (try dsimp only)
          (first | exact True.intro | assumption | exact ⟨‹_›, ‹_›⟩ | (go_keep; done) | (simp [go_sem, *]; done))
        clear hK K hHeld
        have hHeld := hHeld2
        clear hHeld2
        (try simp only [Act.put, List.setIfInBounds_toArray, List.set_cons_zero, List.set_cons_succ])
        refine wpAnyH_ready (rs := [3]) (by kernel_rfl) (by simp) ?_
        refine AllReadyH.cons (toArr_get _ 3 _ rfl) (fun K hK => ?_) ?_
        · go_simp
          go_at_call 49
          refine (toSchedule_any _ _ _ _ _ _ rf ff _ (HF.out.1.below X2.out.bl) (HF.out.2.below X2.out.bl) hrl' hfl').mono ?_
          rintro e w3 ⟨u13, u23, rfl, m13, m23, _, b3⟩
          have T3 := Lib.hid (T2.out.below b3)
          have M3 := Lib.hid m23.intF'
          have X3 := Lib.hid (X2.out.below b3)
          have c30 := X3.out.s0
          have c31 := X3.out.s1
          clear m13 m23 b3 c20 c21 T2 X2
          go_wp2_with fail
          refine hK.out _ _ ?_ (fun hHeld2 => ?_)
          · (try dsimp only)
            (first | exact True.intro | assumption | exact ⟨‹_›, ‹_›⟩ | (go_keep; done) | (simp [go_sem, *]; done))
          clear hK K hHeld
          have hHeld := hHeld2
          clear hHeld2
          (try simp only [Act.put, List.setIfInBounds_toArray, List.set_cons_zero, List.set_cons_succ])
          refine wpAnyH_ready (rs := [4]) (by kernel_rfl) (by simp) ?_
          refine AllReadyH.cons (toArr_get _ 4 _ rfl) (fun K hK => ?_) ?_
          · go_simp
            go_at_call 34
            refine (specMissed_any _ _ _ _ fl js ff _ ⟨_, _, _, rfl⟩ _ T3.out M3.out (by omega) (by omega)).mono ?_
            rintro e w4 ⟨v4, rfl, o4, b4⟩
            unfold OwnL at o4
            rw [← HL.out] at o4
            obtain ⟨a4, k4, rfl⟩ := own_shape o4
            have X4 := Lib.hid (X3.out.below b4)
            have N4 := Lib.hid o4
            have c40 := X4.out.s0
            have c41 := X4.out.s1
            clear o4 b4 c30 c31 T3 M3 X3
            go_wp2_with fail
            refine hK.out _ _ ?_ (fun hHeld2 => ?_)
            · (try dsimp only)
              (first | exact True.intro | assumption | exact ⟨‹_›, ‹_›⟩ | (go_keep; done) | (simp [go_sem, *]; done))
            clear hK K hHeld
            have hHeld := hHeld2
            clear hHeld2
            (try simp only [Act.put, List.setIfInBounds_toArray, List.set_cons_zero, List.set_cons_succ])
            refine wpAnyH_take (i := 5) (v := ?_) (toArr_get _ 5 _ rfl) (by kernel_rfl) (by kernel_rfl) (by kernel_rfl) (fun _ _ _ h => h) (Or.inl ⟨by rfl, ?_⟩) (by assumption) ?_
            rotate_left
            · (intro w hSw; (try dsimp only at hSw); go_simp; (try with_reducible rfl))
            (try simp only [Act.put, List.setIfInBounds_toArray, List.set_cons_zero, List.set_cons_succ])
            refine wpAnyH_done (by kernel_rfl) ?_ _
            have hz : ∀ k, (Value.slice a4 L.length k4).ownBlock = some k → k < w4.heap.size := fun k hk => (N4.out.lt k hk).2
            have HZ := Lib.hid hz
            have Y4 := Lib.hid (show XM w w4 ra fa rl fl rc fc (.slice a4 L.length k4) L.length _ (fun k => L.getD k 0) from ⟨X4.out.s0, X4.out.s1, N4.out, X4.out.bl⟩)
            have hB4 : w.heap.size < w4.heap.size := X4.out.lt
            clear hz c40 c41 X4 N4
            go_wp2_with fail
            refine (toJobS_any _ _ _ _ (HJ.out.below Y4.out.bl) hjn').mono ?_
            rintro e w5 ⟨rfl, J5', b5⟩
            have J5 := Lib.hid J5'
            have Y5 := Lib.hid (Y4.out.below b5)
            have hj5 : w4.heap.size < w5.heap.size := by
              obtain ⟨_, ⟨e, _⟩ | ⟨g, _, cur, e, _, hb, _⟩⟩ := J5'
              · simp at e
              · simp only [Value.slice.injEq, Option.some.injEq, Addr.mk.injEq, and_true] at e
                rw [e.1]
                exact (Array.getElem?_eq_some_iff.1 hb).1
            clear J5' b5 Y4
            generalize hj0 : w4.heap.size = j0 at J5 hB4 hj5 HZ ⊢
            clear hj0
            have x0 := Y5.out.s0
            have x1 := Y5.out.s1
            go_wp2_with fail
            refine (toSchedule_any _ _ _ _ _ _ rf ff _ (HF.out.1.below Y5.out.bl) (HF.out.2.below Y5.out.bl) hrl' hfl').mono ?_
            rintro e w6 ⟨p1, p2, rfl, m1, m2, hpp, b6⟩
            have hp1 := (m1.lt p1 rfl)
            have hp2 := (m2.lt p2 rfl)
            have bx := below_box w6 (.cells #[.slice (some ⟨p1, 0, none⟩) rl rl, .slice (some ⟨p2, 0, none⟩) fl fl] 43)
            have P6 := Lib.hid (And.intro (m1.below bx) (m2.below bx))
            have J6 := Lib.hid ((J5.out.below b6).below bx)
            have Y6 := Lib.hid ((Y5.out.below b6).below bx)
            have hs6 := b6.size
            clear m1 m2 b6 bx J5 Y5 x0 x1
            have x0 := Y6.out.s0
            have x1 := Y6.out.s1
            generalize hA : w6.alloc (.cells #[.slice (some ⟨p1, 0, none⟩) rl rl, .slice (some ⟨p2, 0, none⟩) fl fl] 43) = A at P6 J6 Y6 x0 x1
            have q0 : A.cell? ⟨w6.heap.size, 0, none⟩ = some (.slice (some ⟨p1, 0, none⟩) rl rl) := by rw [← hA]; simp [go_sem]
            have q1 : A.cell? ⟨w6.heap.size, 1, none⟩ = some (.slice (some ⟨p2, 0, none⟩) fl fl) := by rw [← hA]; simp [go_sem]
            have hAs : A.heap.size = w6.heap.size + 1 := by rw [← hA]; simp
            have HAS := Lib.hid hAs
            clear hAs
            go_wp2_with fail
            clear hA x0 x1
            refine (missed_any _ _ _ _ fl js ff _ ⟨_, _, _, rfl⟩ _ J6.out.rowJ P6.out.2.intF' (by omega) (by omega)).mono ?_
            rintro e w7 ⟨vg, rfl, og, b7⟩
            unfold OwnL at og
            rw [← HL.out] at og
            obtain ⟨ag, kg, rfl⟩ := own_shape og
            have hAl : w6.heap.size < A.heap.size := by have := HAS.out; omega
            have q0' := (b7.cell (p := ⟨w6.heap.size, 0, none⟩) hAl).trans q0
            have q1' := (b7.cell (p := ⟨w6.heap.size, 1, none⟩) hAl).trans q1
            have G7 := Lib.hid og
            have P7 := Lib.hid (And.intro (P6.out.1.below b7) (P6.out.2.below b7))
            have J7 := Lib.hid (J6.out.below b7)
            have Y7 := Lib.hid (Y6.out.below b7)
            have hs7 : w6.heap.size < w7.heap.size := Nat.lt_of_lt_of_le hAl b7.size
            have HGB := Lib.hid (show ∀ k, (Value.slice ag L.length kg).ownBlock = some k → w6.heap.size < k from fun k hk => by have := (og.lt k hk).1; have := HAS.out; omega)
            clear og b7 q0 q1 P6 J6 Y6 hAl
            generalize hs8 : w6.heap.size = s8 at hp1 hp2 hs6 HAS hs7 HGB q0' q1' ⊢
            generalize hbg : A.heap.size = bg at G7 HAS ⊢
            clear hs8 hbg
            go_wp2_with fail
            refine (eqIntS_same _ _ _ _ _ _ _ G7.out.intF' Y7.out.o0.intF' (by omega)).mono ?_
            rintro e w8 ⟨rfl, n8, rfl⟩
            have bd := below_drewN w7 n8
            have G8 := Lib.hid (G7.out.below bd)
            have P8 := Lib.hid (And.intro (P7.out.1.below bd) (P7.out.2.below bd))
            have J8 := Lib.hid (J7.out.below bd)
            have Y8 := Lib.hid (Y7.out.below bd)
            have q80 := (bd.cell (p := ⟨s8, 0, none⟩) hs7).trans q0'
            have q81 := (bd.cell (p := ⟨s8, 1, none⟩) hs7).trans q1'
            generalize hw8 : w7.drewN n8 = w8 at G8 P8 J8 Y8 q80 q81 ⊢
            have hs8 : s8 < w8.heap.size := by rw [← hw8]; exact hs7
            clear hw8 bd G7 P7 J7 Y7 q0' q1' hs7
            go_wp2_with fail
            refine (toJobS_any _ _ _ _ (HJ.out.below Y8.out.bl) hjn').mono ?_
            rintro e w9 ⟨rfl, t9, b9⟩
            have T9 := Lib.hid t9.rowJ
            have G9 := Lib.hid (G8.out.below b9)
            have P9 := Lib.hid (And.intro (P8.out.1.below b9) (P8.out.2.below b9))
            have J9 := Lib.hid (J8.out.below b9)
            have Y9 := Lib.hid (Y8.out.below b9)
            have q90 := (b9.cell (p := ⟨s8, 0, none⟩) hs8).trans q80
            have q91 := (b9.cell (p := ⟨s8, 1, none⟩) hs8).trans q81
            have hs9 : s8 < w9.heap.size := Nat.lt_of_lt_of_le hs8 b9.size
            clear t9 b9 G8 P8 J8 Y8 q80 q81 hs8
            go_wp2_with fail
            refine (eqJobS_same _ _ _ _ js _ J9.out.rowJ T9.out hjn').mono ?_
            rintro e wA ⟨rfl, bA⟩
            have GA := Lib.hid (G9.out.below bA)
            have PA := Lib.hid (And.intro (P9.out.1.below bA) (P9.out.2.below bA))
            have JA := Lib.hid (J9.out.below bA)
            have YA := Lib.hid (Y9.out.below bA)
            have qA0 := (bA.cell (p := ⟨s8, 0, none⟩) hs9).trans q90
            have qA1 := (bA.cell (p := ⟨s8, 1, none⟩) hs9).trans q91
            have hsA : s8 < wA.heap.size := Nat.lt_of_lt_of_le hs9 bA.size
            clear bA G9 P9 J9 Y9 T9 q90 q91 hs9
            have yA0 := YA.out.s0
            have yA1 := YA.out.s1
            go_wp2_with fail
            refine wp_region_held_drew (S := fun w' => w'.cell? ⟨w.heap.size, 0, none⟩ = some (.slice ra rl rc) ∧ w'.cell? ⟨w.heap.size, 1, none⟩ = some (.slice fa fl fc) ∧ w'.cell? ⟨s8, 0, none⟩ = some (.slice (some ⟨p1, 0, none⟩) rl rl) ∧ w'.cell? ⟨s8, 1, none⟩ = some (.slice (some ⟨p2, 0, none⟩) fl fl)) (by kernel_rfl) ?_ (fun hHeld => ?_)
            · (try dsimp only)
              (first | exact True.intro | assumption | exact ⟨‹_›, ‹_›⟩ | (go_keep; done) | (simp [go_sem, *]; done))
            have bB : Below wA.heap.size wA wA.drew := (Below.refl _ _).drew
            have GB := Lib.hid (GA.out.below bB)
            have PB := Lib.hid (And.intro (PA.out.1.below bB) (PA.out.2.below bB))
            have JB := Lib.hid (JA.out.below bB)
            have YB := Lib.hid (YA.out.below bB)
            have qB0 := (bB.cell (p := ⟨s8, 0, none⟩) hsA).trans qA0
            have qB1 := (bB.cell (p := ⟨s8, 1, none⟩) hsA).trans qA1
            have hsB : s8 < _ := Nat.lt_of_lt_of_le hsA bB.size
            have yB0 := YB.out.s0
            have yB1 := YB.out.s1
            clear GA PA JA YA qA0 qA1 hsA yA0 yA1
            clear bB
            refine wpAnyH_take (i := 0) (v := ?_) (toArr_get _ 0 _ rfl) (by kernel_rfl) (by kernel_rfl) (by kernel_rfl) (fun _ _ _ h => h) (Or.inl ⟨by rfl, ?_⟩) (by assumption) ?_
            rotate_left
            · (intro w hSw; (try dsimp only at hSw); go_simp; (try with_reducible rfl))
            (try simp only [Act.put, List.setIfInBounds_toArray, List.set_cons_zero, List.set_cons_succ])
            refine wpAnyH_take (i := 1) (v := ?_) (toArr_get _ 1 _ rfl) (by kernel_rfl) (by kernel_rfl) (by kernel_rfl) (fun _ _ _ h => h) (Or.inl ⟨by rfl, ?_⟩) (by assumption) ?_
            rotate_left
            · (intro w hSw; (try dsimp only at hSw); go_simp; (try with_reducible rfl))
            (try simp only [Act.put, List.setIfInBounds_toArray, List.set_cons_zero, List.set_cons_succ])
            refine wpAnyH_ready (rs := [2]) (by kernel_rfl) (by simp) ?_
            refine AllReadyH.cons (toArr_get _ 2 _ rfl) (fun K hK => ?_) ?_
            · go_simp
              go_at_call 49
              refine (toSchedule_any _ _ _ _ _ _ rf ff _ (HF.out.1.below YB.out.bl) (HF.out.2.below YB.out.bl) hrl' hfl').mono ?_
              rintro e wC ⟨u1, u2, rfl, m1, m2, _, bC⟩
              have UC := Lib.hid (And.intro m1 m2)
              have GC := Lib.hid (GB.out.below bC)
              have PC := Lib.hid (And.intro (PB.out.1.below bC) (PB.out.2.below bC))
              have JC := Lib.hid (JB.out.below bC)
              have YC := Lib.hid (YB.out.below bC)
              have qC0 := (bC.cell (p := ⟨s8, 0, none⟩) hsB).trans qB0
              have qC1 := (bC.cell (p := ⟨s8, 1, none⟩) hsB).trans qB1
              have hsC : s8 < _ := Nat.lt_of_lt_of_le hsB bC.size
              have yC0 := YC.out.s0
              have yC1 := YC.out.s1
              clear GB PB JB YB qB0 qB1 hsB yB0 yB1
              clear m1 m2 bC
              go_wp2_with fail
              refine hK.out _ _ ?_ (fun hHeld2 => ?_)
              · (try dsimp only)
                (first | exact True.intro | assumption | exact ⟨‹_›, ‹_›⟩ | (go_keep; done) | (simp [go_sem, *]; done))
              clear hK K hHeld
              have hHeld := hHeld2
              clear hHeld2
              (try simp only [Act.put, List.setIfInBounds_toArray, List.set_cons_zero, List.set_cons_succ])
              refine wpAnyH_ready (rs := [3]) (by kernel_rfl) (by simp) ?_
              refine AllReadyH.cons (toArr_get _ 3 _ rfl) (fun K hK => ?_) ?_
              · go_simp
                go_at_call 45
                refine (eqSchedule_same _ _ _ _ _ _ _ _ rl fl rf ff _ PC.out.1.intF' PC.out.2.intF' UC.out.1.intF' UC.out.2.intF' (by omega) (by omega)).mono ?_
                rintro e wD ⟨rfl, bD⟩
                have GD := Lib.hid (GC.out.below bD)
                have PD := Lib.hid (And.intro (PC.out.1.below bD) (PC.out.2.below bD))
                have JD := Lib.hid (JC.out.below bD)
                have YD := Lib.hid (YC.out.below bD)
                have qD0 := (bD.cell (p := ⟨s8, 0, none⟩) hsC).trans qC0
                have qD1 := (bD.cell (p := ⟨s8, 1, none⟩) hsC).trans qC1
                have hsD : s8 < _ := Nat.lt_of_lt_of_le hsC bD.size
                have yD0 := YD.out.s0
                have yD1 := YD.out.s1
                clear GC PC JC YC qC0 qC1 hsC yC0 yC1
                clear bD UC
                go_wp2_with fail
                refine hK.out _ _ ?_ (fun hHeld2 => ?_)
                · (try dsimp only)
                  (first | exact True.intro | assumption | exact ⟨‹_›, ‹_›⟩ | (go_keep; done) | (simp [go_sem, *]; done))
                clear hK K hHeld
                have hHeld := hHeld2
                clear hHeld2
                (try simp only [Act.put, List.setIfInBounds_toArray, List.set_cons_zero, List.set_cons_succ])
                refine wpAnyH_take (i := 4) (v := ?_) (toArr_get _ 4 _ rfl) (by kernel_rfl) (by kernel_rfl) (by kernel_rfl) (fun _ _ _ h => h) (Or.inl ⟨by rfl, ?_⟩) (by assumption) ?_
                rotate_left
                · (intro w hSw; (try dsimp only at hSw); go_simp; (try with_reducible rfl))
                (try simp only [Act.put, List.setIfInBounds_toArray, List.set_cons_zero, List.set_cons_succ])
                refine wpAnyH_done (by kernel_rfl) ?_ _
                go_wp2_with fail
                refine (markJobS_any _ _ _ _ 1 _ _ JD.out.ownF (by omega) (by omega)).mono ?_
                rintro e wE ⟨rfl, _, gE⟩
                have YE := Lib.hid (YD.out.grown gE (fun k hk => by simp only [Value.ownBlock, Option.some.injEq] at hk; refine ⟨by omega, fun e => ?_⟩; have := HZ.out k e; omega))
                have PE := Lib.hid (And.intro (PD.out.1.gb gE (fun k hk e => by simp only [Value.ownBlock, Option.some.injEq] at hk e; omega)) (PD.out.2.gb gE (fun k hk e => by simp only [Value.ownBlock, Option.some.injEq] at hk e; omega)))
                have GE := Lib.hid (GD.out.gb gE (fun k hk e => by have := HGB.out k hk; simp only [Value.ownBlock, Option.some.injEq] at e; omega))
                have qE0 := gE.cell qD0 (fun e => by simp only [Value.ownBlock, Option.some.injEq] at e; omega)
                have qE1 := gE.cell qD1 (fun e => by simp only [Value.ownBlock, Option.some.injEq] at e; omega)
                have hsE : s8 < wE.heap.size := Nat.lt_of_lt_of_le hsD gE.size
                clear gE YD PD GD JD qD0 qD1 hsD yD0 yD1
                obtain ⟨q1, hq1⟩ : ∃ q : Nat, ((1 : Nat) : Int) + 4 * (js.length : Int) = (q : Int) ∧ q ≤ 5000000 := ⟨1 + 4 * js.length, by omega, by omega⟩
                rw [hq1.1]
                obtain ⟨hq1', hq1⟩ := hq1
                clear hq1'
                go_wp2_with fail
                refine (markSchedule_any _ _ _ _ _ _ _ _ q1 _ _ PE.out.1 PE.out.2 (fun k hk e => by simp only [Value.ownBlock, Option.some.injEq] at hk e; omega) (by omega) (by omega) (by omega) (by omega)).mono ?_
                rintro e wF ⟨rfl, _, _, bF, kF⟩
                have kF' : ∀ k, k < wE.heap.size → k ≠ p1 → k ≠ p2 → wF.heap[k]? = wE.heap[k]? := fun k hk h1 h2 => kF k hk (fun e => h1 (by simpa [Value.ownBlock] using e)) (fun e => h2 (by simpa [Value.ownBlock] using e))
                have YF := Lib.hid (YE.out.of (YE.out.bl.trans (bF.mono (by omega))) fun k hk => kF' k (by rcases hk with rfl | e; exact YE.out.lt; exact (YE.out.o0.lt k e).2) (by rcases hk with rfl | e; omega; have := HZ.out k e; omega) (by rcases hk with rfl | e; omega; have := HZ.out k e; omega))
                have GF := Lib.hid (GE.out.of_block fun k hk => kF' k (GE.out.lt k hk).2 (by have := HGB.out k hk; omega) (by have := HGB.out k hk; omega))
                clear bF kF kF' YE PE GE qE0 qE1 hsE
                have hk0 : ¬ (q1 : Int) + (rl : Int) + (fl : Int) < 0 := by omega
                go_wp2_with fail
                refine (eqIntS_same _ _ _ _ _ _ _ GF.out.intF' YF.out.o0.intF' (by omega)).mono ?_
                rintro e wG ⟨rfl, nG, rfl⟩
                have GG := Lib.hid (GF.out.below (below_drewN wF nG))
                have YG := Lib.hid (YF.out.below (below_drewN wF nG))
                generalize hwG : wF.drewN nG = wG at GG YG ⊢
                clear hwG GF YF hk0
                go_wp2_with fail
                refine (markIntS_any _ _ _ _ 1 _ _ GG.out (by omega) (by omega)).mono ?_
                rintro e wH ⟨rfl, oH, gH⟩
                have YH := Lib.hid (YG.out.grown gH (fun k hk => by have := HGB.out k hk; refine ⟨by omega, fun e => ?_⟩; have := HZ.out k e; omega))
                have GH := Lib.hid oH
                clear GG YG oH gH
                have hp : ¬ ((1 : Nat) : Int) + (L.length : Int) < 0 := by omega
                go_wp2_with fail
                refine (heldIntS_any _ _ _ 1 _ GH.out.intF' (by omega) (by omega)).mono ?_
                rintro e wI ⟨rfl, rfl⟩
                have yH0 := YH.out.s0
                have yH1 := YH.out.s1
                have XH := YH
                go_wp2_with fail
                refine wp_region_held_drew (S := fun w' => w'.cell? ⟨w.heap.size, 0, none⟩ = some (.slice ra rl rc) ∧ w'.cell? ⟨w.heap.size, 1, none⟩ = some (.slice fa fl fc)) (by kernel_rfl) ?_ (fun hHeld => ?_)
                · (try dsimp only)
                  (first | exact True.intro | assumption | exact ⟨‹_›, ‹_›⟩ | (go_keep; done) | (simp [go_sem, *]; done))
                have Xd := Lib.hid (XH.out.below (Below.refl _ _).drew)
                have Gd := Lib.hid (GH.out.below (Below.refl _ _).drew)
                have cd0 := Xd.out.s0
                have cd1 := Xd.out.s1
                clear XH
                refine wpAnyH_take (i := 0) (v := ?_) (toArr_get _ 0 _ rfl) (by kernel_rfl) (by kernel_rfl) (by kernel_rfl) (fun _ _ _ h => h) (Or.inl ⟨by rfl, ?_⟩) (by assumption) ?_
                rotate_left
                · (intro w hSw; (try dsimp only at hSw); go_simp; (try with_reducible rfl))
                (try simp only [Act.put, List.setIfInBounds_toArray, List.set_cons_zero, List.set_cons_succ])
                refine wpAnyH_take (i := 2) (v := ?_) (toArr_get _ 2 _ rfl) (by kernel_rfl) (by kernel_rfl) (by kernel_rfl) (fun _ _ _ h => h) (Or.inl ⟨by rfl, ?_⟩) (by assumption) ?_
                rotate_left
                · (intro w hSw; (try dsimp only at hSw); go_simp; (try with_reducible rfl))
                (try simp only [Act.put, List.setIfInBounds_toArray, List.set_cons_zero, List.set_cons_succ])
                refine wpAnyH_ready (rs := [1]) (by kernel_rfl) (by simp) ?_
                refine AllReadyH.cons (toArr_get _ 1 _ rfl) (fun K hK => ?_) ?_
                · go_simp
                  go_at_call 39
                  refine (toJobS_any _ _ _ _ (HJ.out.below Xd.out.bl) hjn').mono ?_
                  rintro e wP ⟨rfl, jP, bP⟩
                  have TP := Lib.hid jP.rowJ
                  have XP := Lib.hid (Xd.out.below bP)
                  have GP := Lib.hid (Gd.out.below bP)
                  have cP0 := XP.out.s0
                  have cP1 := XP.out.s1
                  clear jP bP cd0 cd1 Xd Gd
                  go_wp2_with fail
                  refine hK.out _ _ ?_ (fun hHeld2 => ?_)
                  · (try dsimp only)
                    (first | exact True.intro | assumption | exact ⟨‹_›, ‹_›⟩ | (go_keep; done) | (simp [go_sem, *]; done))
                  clear hK K hHeld
                  have hHeld := hHeld2
                  clear hHeld2
                  (try simp only [Act.put, List.setIfInBounds_toArray, List.set_cons_zero, List.set_cons_succ])
                  refine wpAnyH_ready (rs := [3]) (by kernel_rfl) (by simp) ?_
                  refine AllReadyH.cons (toArr_get _ 3 _ rfl) (fun K hK => ?_) ?_
                  · go_simp
                    go_at_call 49
                    refine (toSchedule_any _ _ _ _ _ _ rf ff _ (HF.out.1.below XP.out.bl) (HF.out.2.below XP.out.bl) hrl' hfl').mono ?_
                    rintro e wQ ⟨u1Q, u2Q, rfl, m1Q, m2Q, _, bQ⟩
                    have TQ := Lib.hid (TP.out.below bQ)
                    have MQ := Lib.hid m2Q.intF'
                    have XQ := Lib.hid (XP.out.below bQ)
                    have GQ := Lib.hid (GP.out.below bQ)
                    have cQ0 := XQ.out.s0
                    have cQ1 := XQ.out.s1
                    clear m1Q m2Q bQ cP0 cP1 TP XP GP
                    go_wp2_with fail
                    refine hK.out _ _ ?_ (fun hHeld2 => ?_)
                    · (try dsimp only)
                      (first | exact True.intro | assumption | exact ⟨‹_›, ‹_›⟩ | (go_keep; done) | (simp [go_sem, *]; done))
                    clear hK K hHeld
                    have hHeld := hHeld2
                    clear hHeld2
                    (try simp only [Act.put, List.setIfInBounds_toArray, List.set_cons_zero, List.set_cons_succ])
                    refine wpAnyH_ready (rs := [4]) (by kernel_rfl) (by simp) ?_
                    refine AllReadyH.cons (toArr_get _ 4 _ rfl) (fun K hK => ?_) ?_
                    · go_simp
                      go_at_call 31
                      refine (missed_any _ _ _ _ fl js ff _ ⟨_, _, _, rfl⟩ _ TQ.out MQ.out (by omega) (by omega)).mono ?_
                      rintro e wR ⟨vR, rfl, oR, bR⟩
                      unfold OwnL at oR
                      rw [← HL.out] at oR
                      obtain ⟨aR, kR, rfl⟩ := own_shape oR
                      have XR := Lib.hid (XQ.out.below bR)
                      have GR := Lib.hid (GQ.out.below bR)
                      have NR := Lib.hid oR
                      have cR0 := XR.out.s0
                      have cR1 := XR.out.s1
                      clear oR bR cQ0 cQ1 TQ MQ XQ GQ
                      go_wp2_with fail
                      refine hK.out _ _ ?_ (fun hHeld2 => ?_)
                      · (try dsimp only)
                        (first | exact True.intro | assumption | exact ⟨‹_›, ‹_›⟩ | (go_keep; done) | (simp [go_sem, *]; done))
                      clear hK K hHeld
                      have hHeld := hHeld2
                      clear hHeld2
                      (try simp only [Act.put, List.setIfInBounds_toArray, List.set_cons_zero, List.set_cons_succ])
                      refine wpAnyH_take (i := 5) (v := ?_) (toArr_get _ 5 _ rfl) (by kernel_rfl) (by kernel_rfl) (by kernel_rfl) (fun _ _ _ h => h) (Or.inl ⟨by rfl, ?_⟩) (by assumption) ?_
                      rotate_left
                      · (intro w hSw; (try dsimp only at hSw); go_simp; (try with_reducible rfl))
                      (try simp only [Act.put, List.setIfInBounds_toArray, List.set_cons_zero, List.set_cons_succ])
                      refine wpAnyH_done (by kernel_rfl) ?_ _
                      go_wp2_with fail
                      refine (eqIntS_same _ _ _ _ _ _ _ NR.out.intF' XR.out.o0.intF' (by omega)).mono ?_
                      rintro e wS ⟨rfl, nS, rfl⟩
                      have GS := Lib.hid (GR.out.below (below_drewN wR nS))
                      have XS := Lib.hid (XR.out.below (below_drewN wR nS))
                      generalize hwS : wR.drewN nS = wS at GS XS ⊢
                      clear hwS GR XR NR cR0 cR1
                      go_wp2_with fail
                      refine (heldIntS_any _ _ _ 1 _ GS.out.intF' (by omega) (by omega)).mono ?_
                      rintro e wT ⟨rfl, rfl⟩
                      go_wp2
                      go_ret
                      exact ⟨rfl, XS.out.bl⟩
                    exact AllReadyH.nil
                  exact AllReadyH.nil
                exact AllReadyH.nil
              exact AllReadyH.nil
            exact AllReadyH.nil
          exact AllReadyH.nil
        exact AllReadyH.nil
      exact AllReadyH.nil
    · have hl' : 1048576 - js.length < rl + fl := by omega
      go_enter Try.func13, Try.ntmps13
      go_wp2_with fail
      refine (szJobS_small _ _ _ 1048576 _ hn (by omega)).mono ?_
      rintro e w' ⟨rfl, rfl⟩
      rw [show (((1048576 : Nat) : Int)) - (js.length : Int) = ((1048576 - js.length : Nat) : Int) by omega]
      have h1 : ¬ ((1048576 - js.length : Nat) : Int) < 0 := by omega
      go_wp2_with fail
      refine (szSchedule_big _ _ _ _ _ _ (1048576 - js.length) _ hl' hsm.1 hsm.2 (by omega)).mono ?_
      rintro e w1 ⟨rfl, b1⟩
      go_wp2
      go_ret
      exact ⟨rfl, (below_box _ _).trans (b1.mono (by simp))⟩
  · go_enter Try.func13, Try.ntmps13
    go_wp2_with fail
    refine (szJobS_big _ _ _ 1048576 _ (by omega) hjm (by omega)).mono ?_
    rintro e w' ⟨rfl, rfl⟩
    go_wp2
    go_ret
    exact ⟨rfl, below_box _ _⟩

set_option maxRecDepth 100000 in
theorem fnExactMissed_lifted (os : Os) (started : os.Started) (H : Type) (enc : TypeId × Value → H) :
    ReturnsInHanded {} Try.checked os 13 .any (Rows.fnExactMissedSpec.pre6 enc Try.prog Try.f13 Rows.fnExactMissedRow.domain false) (Rows.fnExactMissedSpec.post enc Try.prog Try.f13 false true false false) := by
  refine returnsInHanded_of_change (C := Try.checked) ownKnobs started (by kernel_rfl) Try.func13
    (ChangeSpec.witness6 (enc := enc) (C := Try.checked) false ⟨#[], #[.slice none 0 0, .agg #[.slice none 0 0, .slice none 0 0]], []⟩ 8 (by kernel_rfl) (by kernel_rfl) (by kernel_rfl) (by kernel_rfl)) ?_
  intro W base args ds gs before hval0 hW _ _
  have hval : ∀ (j : Nat) t v, Try.f13.params[j]? = some t → args[j]? = some v → Value.okWide Try.prog W .any base t v := hval0
  have hW' := hW
  obtain ⟨p, q, hA0, hV, rfl, hfz, hnd⟩ := hW
  have hA : DataW.TrodAll enc Try.prog W 0 (fun _ => true) true Try.f13.params.toList args.toList ds p := hA0
  rw [Try.params13] at hA hval
  obtain ⟨v0, vs0, d0, ds0, p0, q0, hargs, rfl, rfl, h0, r0⟩ := trodAll_cons hA
  obtain ⟨v1, vs1, d1, ds1, p1, q1, rfl, rfl, rfl, h1, r1⟩ := trodAll_cons r0
  obtain ⟨rfl, rfl, rfl⟩ := trodAll_nil r1
  obtain rfl : args = #[v0, v1] := by cases args; simp_all
  obtain ⟨rfl, rfl⟩ := trodVars_none hV
  have k0 := h0
  have lt0 : ∀ x ∈ p0, x.block < W.heap.size := by obtain ⟨m, hm⟩ := k0; exact DataW.trod_lt m _ _ _ hm
  have k1 := h1
  have lt1 : ∀ x ∈ p1, x.block < W.heap.size := by obtain ⟨m, hm⟩ := k1; exact DataW.trod_lt m _ _ _ hm
  clear hA0 hval0
  obtain ⟨a0, cap0, js0, rfl, hr0, hm0⟩ := rowJ_of_arg (hval 0 53 v0 rfl rfl) h0
  obtain ⟨ra1, fa1, rl1, fl1, rc1, fc1, rf1, ff1, rfl, hr1, hm1⟩ := sched_of_arg (hval 1 63 v1 rfl rfl) h1
  refine (fnExactMissed_any a0 cap0 js0 ra1 fa1 rl1 fl1 rc1 fc1 rf1 ff1 W hr0 hm0 hr1 hm1).mono fun e W' ⟨he, bel⟩ => ?_
  subst he
  exact ⟨_, rfl, _, _, _, [], _, [], hW', trodAll_mk1 (shut_bool Try.underlying4 _), (trodAll_cons_mk (Below.trod laidOut (by kernel_rfl) (of_decide_eq_true (by kernel_rfl)) k0 bel lt0) (trodAll_cons_mk (Below.trod laidOut (by kernel_rfl) (of_decide_eq_true (by kernel_rfl)) k1 bel lt1) trodAll_mk0)), rfl, bel.frame _, fun h => by cases h⟩

/-- The given statement. -/
theorem fnExactMissed_holds : Rows.FnExactMissedSaid :=
  OpenClaim.holds_of_wide 13 Try.f13 rfl rfl rfl rfl rfl rfl rfl ⟨rfl, rfl, rfl, rfl, rfl⟩ rfl rfl rfl rfl rfl (by kernel_rfl) Try.func13 (by kernel_rfl)
    (of_decide_eq_true (by kernel_rfl)) (by unfold Func.isWrapper; first | (rw [if_pos (by decide +kernel)]; kernel_rfl) | (rw [if_neg (by decide +kernel)]; exact ⟨rfl, rfl⟩))
    (fun os started H enc _ => fnExactMissed_lifted os started H enc)
#print axioms fnExactMissed_holds
end Go.Proofs.Ytpnfbgbbmpacfaa
