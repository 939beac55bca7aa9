/- The walks of the exact laws of chapter 3, for whatever code: FnExactJobsLegal, FnExactSynchronous. Conditions: the arguments are slices of tasks and of jobs. -/
import Derived.Test.YtpnfbgbbmpacfaaEdfImpl
import Derived.Test.YtpnfbgbbmpacfaaMark
import Derived.Test.YtpnfbgbbmpacfaaCopy
namespace Go.Proofs.Ytpnfbgbbmpacfaa
open Go.RowKit Go.Deep

set_option maxHeartbeats 1000000 in
/-- laws.FnExactJobsLegal. -/
theorem exactJobsLegal_walk (a ja : Option Addr) (cap jcap : Nat) (ts : List T3) (js : List J4) (w : World) (hr : Row w a ts) (hj : RowJ w ja js) (hm : ts.length ≤ maxLen) (hjm : js.length ≤ maxLen) :
    Calls Try.prog 10 #[.slice a ts.length cap, .slice ja js.length jcap] w fun e w' =>
      e = .returned (.bool true) ∧ Below w.heap.size w w' := by
  have HR := Lib.hid hr
  have HJ := Lib.hid hj
  clear hr hj
  by_cases hn : ts.length ≤ 1048576
  · have hn' : ts.length ≤ 1099511627776 := by omega
    have h' : ¬ (1048576 - (ts.length : Int) < 0) := by omega
    obtain ⟨L, hL⟩ : ∃ L : Nat, (1048576 : Int) - (ts.length : Int) = (L : Int) := ⟨1048576 - ts.length, by omega⟩
    have hL2 : L ≤ 1048576 := by omega
    by_cases hjn : js.length ≤ L
    · have hjn' : js.length ≤ 1099511627776 := by omega
      have h2 : ¬ ((L : Int) - (js.length : Int) < 0) := by omega
      go_enter Try.func10, Try.ntmps10
      go_wp2_with fail
      refine (szTaskS_small _ _ _ _ hn).mono ?_
      rintro e w' ⟨rfl, rfl⟩
      rw [hL]
      clear h' hL
      go_wp2_with fail
      refine (szJobS_small _ _ _ L _ hjn hL2).mono ?_
      rintro e w' ⟨rfl, rfl⟩
      go_wp2_with fail
      refine (toTaskS_any _ _ _ _ HR.out hn').mono ?_
      rintro e w1 ⟨rfl, r1, b1⟩
      have R1 := Lib.hid r1
      clear r1
      go_wp2_with fail
      refine (toJobS_any _ _ _ _ (HJ.out.below b1) hjn').mono ?_
      rintro e w2 ⟨rfl, o2, b2⟩
      have J2 := Lib.hid o2.rowJ
      have b12 := b1.trans (b2.mono b1.size)
      clear o2
      go_wp2_with fail
      refine (specJobsLegal_any _ _ _ _ ts js _ (R1.out.below b2) J2.out hn' hjn').mono ?_
      rintro e w3 ⟨rfl, b3⟩
      have b13 := b12.trans (b3.mono b12.size)
      clear R1 J2 b1 b2 b3 b12
      go_wp2_with fail
      refine (toTaskS_any _ _ _ _ (HR.out.below b13) hn').mono ?_
      rintro e w4 ⟨rfl, r4, b4⟩
      have R4 := Lib.hid r4
      have b14 := b13.trans (b4.mono b13.size)
      clear r4
      go_wp2_with fail
      refine (toJobS_any _ _ _ _ (HJ.out.below b14) hjn').mono ?_
      rintro e w5 ⟨rfl, o5, b5⟩
      have J5 := Lib.hid o5.rowJ
      have b15 := b14.trans (b5.mono b14.size)
      clear o5
      go_wp2_with fail
      refine (jobsLegal_any _ _ _ _ ts js _ (R4.out.below b5) J5.out hn' hjn').mono ?_
      rintro e w6 ⟨rfl, b6⟩
      have b16 := b15.trans (b6.mono b15.size)
      go_wp2_with fail
      refine (toTaskS_any _ _ _ _ (HR.out.below b16) hn').mono ?_
      rintro e w7 ⟨rfl, r7, b7⟩
      have R7 := Lib.hid r7
      have b17 := b16.trans (b7.mono b16.size)
      clear r7
      go_wp2_with fail
      refine (eqTaskS_same _ _ _ _ ts _ (((R4.out.below b5).below b6).below b7) R7.out hn').mono ?_
      rintro e w8 ⟨rfl, b8⟩
      have b18 := b17.trans (b8.mono b17.size)
      go_wp2_with fail
      refine (toJobS_any _ _ _ _ (HJ.out.below b18) hjn').mono ?_
      rintro e w9 ⟨rfl, o9, b9⟩
      have J9 := Lib.hid o9.rowJ
      have b19 := b18.trans (b9.mono b18.size)
      clear o9
      go_wp2_with fail
      refine (eqJobS_same _ _ _ _ js _ ((((J5.out.below b6).below b7).below b8).below b9) J9.out hjn').mono ?_
      rintro e w10 ⟨rfl, b10⟩
      go_wp2
      go_ret
      exact ⟨rfl, b19.trans (b10.mono b19.size)⟩
    · have hjn' : L < js.length := by omega
      go_enter Try.func10, Try.ntmps10
      go_wp2_with fail
      refine (szTaskS_small _ _ _ _ hn).mono ?_
      rintro e w' ⟨rfl, rfl⟩
      rw [hL]
      clear h' hL
      go_wp2_with fail
      refine (szJobS_big _ _ _ L _ hjn' hjm hL2).mono ?_
      rintro e w' ⟨rfl, rfl⟩
      go_wp2
      go_ret
      exact ⟨rfl, Below.refl _ _⟩
  · have hn' : 1048576 < ts.length := by omega
    go_enter Try.func10, Try.ntmps10
    go_wp2_with (go_at_call 36; refine (szTaskS_big _ _ _ _ hn' hm).mono ?_; rintro e w' ⟨rfl, rfl⟩)
    go_ret
    exact ⟨rfl, Below.refl _ _⟩

theorem OwnJ.apart {w w' : World} {base : Nat} {v : Value} {js : List J4} {row : Option Nat} (h : OwnJ w base v js) (hg : w.grownBy w' row) (hne : ∀ k, v.ownBlock = some k → row ≠ some k) : OwnJ w' base v js :=
  World.ownsRow.kept h hg (by cases e : v.ownBlock with
    | none => exact .inl rfl
    | some k => exact .inr (fun h2 => hne k e h2.symm))
theorem syB_len (ts : List T3) (x : Int) : (syB ts x).length ≤ 60 := by
  unfold syB
  split
  · rename_i h
    exact (legB_iff.1 (sy_legal h.1 (by omega))).2.1
  · simp

set_option maxHeartbeats 2000000 in
/-- laws.FnExactSynchronous. -/
theorem exactSynchronous_walk (a : Option Addr) (cap : Nat) (ts : List T3) (x : Int) (w : World) (hr : Row w a ts) (hm : ts.length ≤ maxLen) :
    Calls Try.prog 11 #[.slice a ts.length cap, .int .i64 x] w fun e w' =>
      e = .returned (.bool true) ∧ Below w.heap.size w w' := by
  have HR := Lib.hid hr
  clear hr
  by_cases hn : ts.length ≤ 1048576
  · have hn' : ts.length ≤ 1099511627776 := by omega
    have h' : ¬ (1048576 - (ts.length : Int) < 0) := by omega
    have hsl := syB_len ts x
    obtain ⟨js, hjs⟩ : ∃ js, js = syB ts x := ⟨_, rfl⟩
    rw [← hjs] at hsl
    have HJS := Lib.hid hjs
    clear hjs
    go_enter Try.func11, Try.ntmps11
    go_wp2_with fail
    refine (szTaskS_small _ _ _ _ hn).mono ?_
    rintro e w' ⟨rfl, rfl⟩
    go_wp2_with fail
    refine (toTaskS_any _ _ _ _ HR.out hn').mono ?_
    rintro e w1 ⟨rfl, r1, b1⟩
    have R1 := Lib.hid r1
    clear r1 h'
    go_wp2_with fail
    refine (specSynchronous_any _ _ ts x _ R1.out hn').mono ?_
    rintro e w2 ⟨v0, rfl, o2, b2⟩
    rw [← HJS.out] at o2
    obtain ⟨a0, c0, rfl⟩ := o2.shape
    have O2 := Lib.hid o2
    have b12 := b1.trans (b2.mono b1.size)
    clear o2 R1
    go_wp2_with fail
    refine (toTaskS_full _ _ _ _ (HR.out.below b12) hn').mono ?_
    rintro e w3 ⟨rfl, r3, b3⟩
    have F3 := Lib.hid r3
    have b13 := b12.trans (b3.mono b12.size)
    have hs3 : w2.heap.size < w3.heap.size := by obtain ⟨f, hrow, _⟩ := r3; exact hrow.lt
    clear r3
    go_wp2_with fail
    refine (synchronous_any _ _ ts x _ F3.out.row hn').mono ?_
    rintro e w4 ⟨vg, rfl, o4, b4⟩
    rw [← HJS.out] at o4
    obtain ⟨ag, cg, rfl⟩ := o4.shape
    have G4 := Lib.hid o4
    have O4 := Lib.hid ((O2.out.below b3).below b4)
    have F4 := Lib.hid (F3.out.below b4)
    have b14 := b13.trans (b4.mono b13.size)
    have hlt0 : ∀ k, (Value.slice a0 js.length c0).ownBlock = some k → k < w2.heap.size := fun k hk => (O2.out.lt k hk).2
    have hltg : ∀ k, (Value.slice ag js.length cg).ownBlock = some k → w3.heap.size ≤ k := fun k hk => (o4.lt k hk).1
    have H0 := Lib.hid hlt0
    have HGG := Lib.hid hltg
    clear o4 hlt0 hltg F3
    go_wp2_with fail
    refine (eqJobS_same _ _ _ _ js _ G4.out.rowJ O4.out.rowJ (by omega)).mono ?_
    rintro e w5 ⟨rfl, b5⟩
    have G5 := Lib.hid (G4.out.below b5)
    have O5 := Lib.hid (O4.out.below b5)
    have F5 := Lib.hid (F4.out.below b5)
    have b15 := b14.trans (b5.mono b14.size)
    clear G4 O4 F4
    go_wp2_with fail
    refine (toTaskS_any _ _ _ _ (HR.out.below b15) hn').mono ?_
    rintro e w6 ⟨rfl, r6, b6⟩
    have R6 := Lib.hid r6
    have G6 := Lib.hid (G5.out.below b6)
    have O6 := Lib.hid (O5.out.below b6)
    have F6 := Lib.hid (F5.out.below b6)
    have b16 := b15.trans (b6.mono b15.size)
    clear r6 G5 O5 F5
    go_wp2_with fail
    refine (eqTaskS_same _ _ _ _ ts _ F6.out.row R6.out hn').mono ?_
    rintro e w7 ⟨rfl, b7⟩
    have G7 := Lib.hid (G6.out.below b7)
    have O7 := Lib.hid (O6.out.below b7)
    obtain ⟨f7, rf7, _⟩ := F6.out.below b7
    have b17 := b16.trans (b7.mono b16.size)
    have RF7 := Lib.hid rf7
    clear G6 O6 F6 R6 rf7
    go_wp2_with fail
    refine (markTaskS_any _ _ _ _ 1 _ RF7.out hn (by omega)).mono ?_
    rintro e w8 ⟨rfl, g8⟩
    have hk8 : ¬ ((1 : Nat) : Int) + 3 * (ts.length : Int) < 0 := by omega
    have b18 : Below w.heap.size w w8 := b17.grown g8 b17.size (fun k hk => by simp only [Option.some.injEq] at hk; have := b12.size; omega)
    have G8 := Lib.hid (G7.out.apart g8 (fun k hk e => by have := HGG.out k hk; simp only [Option.some.injEq] at e; omega))
    have O8 := Lib.hid (O7.out.apart g8 (fun k hk e => by have := H0.out k hk; simp only [Option.some.injEq] at e; omega))
    clear G7 O7 RF7 g8
    go_wp2_with fail
    refine (eqJobS_same _ _ _ _ js _ G8.out.rowJ O8.out.rowJ (by omega)).mono ?_
    rintro e w9 ⟨rfl, b9⟩
    have G9 := Lib.hid (G8.out.below b9)
    have O9 := Lib.hid (O8.out.below b9)
    have b19 := b18.trans (b9.mono b18.size)
    clear G8 O8 hk8
    go_wp2_with fail
    refine (markJobS_any _ _ _ _ 1 _ _ G9.out.ownF (by omega) (by omega)).mono ?_
    rintro e w10 ⟨rfl, og10, g10⟩
    have O10 := Lib.hid (O9.out.apart g10 (fun k hk e => by have := H0.out k hk; have := HGG.out k e; omega))
    have b110 : Below w.heap.size w w10 := b19.grown g10 b19.size (fun k hk => by have := HGG.out k hk; have := b13.size; omega)
    have G10 := Lib.hid og10
    clear O9 G9 g10 og10
    go_wp2_with fail
    refine (heldJobS_any _ _ _ 1 _ _ G10.out (by omega) (by omega)).mono ?_
    rintro e w11 ⟨rfl, l11, rfl⟩
    have hq0 : ¬ ((1 : Nat) : Int) + 4 * (js.length : Int) < 0 := by omega
    have b111 : Below w.heap.size w (w10.drewN l11) := below_drewN' b110 _
    have G11 := Lib.hid (G10.out.below (below_drewN _ l11))
    have O11 := Lib.hid (O10.out.below (below_drewN _ l11))
    clear G10 O10
    go_wp2_with fail
    refine (toTaskS_any _ _ _ _ (HR.out.below b111) hn').mono ?_
    rintro e w12 ⟨rfl, r12, b12'⟩
    have R12 := Lib.hid r12
    have G12 := Lib.hid (G11.out.below b12')
    have O12 := Lib.hid (O11.out.below b12')
    have b112 := b111.trans (b12'.mono b111.size)
    clear r12 G11 O11
    go_wp2_with fail
    refine (synchronous_any _ _ ts x _ R12.out hn').mono ?_
    rintro e w13 ⟨vh, rfl, o13, b13'⟩
    rw [← HJS.out] at o13
    obtain ⟨ah, ch, rfl⟩ := o13.shape
    have H13 := Lib.hid o13.rowJ
    have G13 := Lib.hid (G12.out.below b13')
    have O13 := Lib.hid (O12.out.below b13')
    have b113 := b112.trans (b13'.mono b112.size)
    clear o13 G12 O12 R12
    go_wp2_with fail
    refine (eqJobS_same _ _ _ _ js _ H13.out O13.out.rowJ (by omega)).mono ?_
    rintro e w14 ⟨rfl, b14'⟩
    have G14 := Lib.hid (G13.out.below b14')
    have b114 := b113.trans (b14'.mono b113.size)
    clear G13 O13 H13
    go_wp2_with fail
    refine (heldJobS_any _ _ _ 1 _ _ G14.out (by omega) (by omega)).mono ?_
    rintro e w15 ⟨rfl, l15, rfl⟩
    go_wp2
    go_ret
    exact ⟨rfl, below_drewN' b114 _⟩
  · have hn' : 1048576 < ts.length := by omega
    go_enter Try.func11, Try.ntmps11
    go_wp2_with (go_at_call 36; refine (szTaskS_big _ _ _ _ hn' hm).mono ?_; rintro e w' ⟨rfl, rfl⟩)
    go_ret
    exact ⟨rfl, Below.refl _ _⟩

end Go.Proofs.Ytpnfbgbbmpacfaa
