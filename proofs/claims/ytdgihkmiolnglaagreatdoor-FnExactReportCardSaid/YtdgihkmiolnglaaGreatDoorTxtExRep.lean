/- The walk of laws.FnExactReport over the program's and the reference's contracts: for every slice of strings the law returns true. Conditions: those of each theorem (what strconv's variables hold). -/
import Derived.Test.YtdgihkmiolnglaaGreatDoorTxtPrg
import Derived.Test.YtdgihkmiolnglaaGreatDoorTxtCopyS
namespace Go.Proofs.YtdgihkmiolnglaaGreatDoor
open Go.RowKit Go.Deep

theorem own_off {w w' : World} {base X : Nat} {v : Value} {ls : List (List UInt8)} (h : OwnL w base v ls) (hg : w.grownBy w' (some X)) (hb : ∀ k, v.ownBlock = some k → k ≠ X) : OwnL w' base v ls :=
  World.ownsRow.kept h hg (by
    cases e : v.ownBlock with
    | none => exact .inl rfl
    | some k => exact .inr (by have := hb k e; simpa using this))
theorem repL_len (ls : List (List UInt8)) : 1 ≤ (repL ls).length ∧ (repL ls).length ≤ 4 := by
  unfold repL four
  split
  · exact ⟨(by decide : 1 ≤ 1), (by decide : 1 ≤ 4)⟩
  · split
    · exact ⟨(by decide : 1 ≤ 1), (by decide : 1 ≤ 4)⟩
    · exact ⟨(by decide : 1 ≤ 4), (by decide : 4 ≤ 4)⟩
theorem OwnL.blk {w : World} {base : Nat} {v : Value} {ls : List (List UInt8)} (h : OwnL w base v ls) (hn : 1 ≤ ls.length) : ∃ g cap, v = .slice (some ⟨g, 0, none⟩) ls.length cap ∧ base ≤ g ∧ g < w.heap.size := by
  obtain ⟨_, ⟨_, e⟩ | ⟨g, cap, cur, e, h3, hb, _⟩⟩ := h
  · omega
  · exact ⟨g, cap, e, h3, (Array.getElem?_eq_some_iff.1 hb).1⟩

set_option maxRecDepth 100000 in
set_option maxHeartbeats 8000000 in
theorem exactReport_walk (a : Option Addr) (cap : Nat) (ls : List (List UInt8)) (w : World) (hG : RepG w) (hr : RowL w a ls) (hm : ls.length ≤ maxLen) (hs : ∀ j, j < ls.length → (ln ls j).length ≤ maxLen) :
    Calls Tryz.prog 4 #[.slice a ls.length cap] w fun e w' => e = .returned (.bool true) ∧ Below w.heap.size w w' := by
  have HR := Lib.hid hr
  have HG := Lib.hid hG
  have HM := Lib.hid (And.intro hm hs)
  clear hr hG hm hs
  go_enter Tryz.func4, Tryz.ntmps4
  go_wp2_with fail
  refine (szStringS_any a cap ls _ HR.out HM.out.1 HM.out.2).mono ?_
  rintro e w0 ⟨r, rfl, rfl, hsz⟩
  by_cases hr0 : r < 0
  · clear hsz
    go_wp2
    go_ret
    exact ⟨rfl, Below.refl _ _⟩
  obtain ⟨hn, hsm⟩ := hsz (by omega)
  have HSM := Lib.hid (show ∀ l ∈ ls, l.length ≤ 1048576 from fun l hl => by
    obtain ⟨j, hj, e⟩ := List.getElem_of_mem hl
    rw [← e, ← ln_get hj]; exact hsm j hj)
  clear hsm hsz
  have hr0' : ¬ r < 0 := hr0
  clear hr0
  have RL := repL_len ls
  obtain ⟨R, hRd⟩ : ∃ R, R = repL ls := ⟨_, rfl⟩
  have HRD := Lib.hid hRd
  rw [← hRd] at RL
  obtain ⟨hR1, hR4⟩ := RL
  clear hRd
  go_wp2_with fail
  refine (toStringS_any a cap ls _ HR.out hn).mono ?_
  rintro e w1 ⟨rfl, o1, b1⟩
  have B1 := b1
  clear b1
  go_wp2_with fail
  refine (specReport_any _ _ ls _ o1.rowL hn HSM.out).mono ?_
  rintro e w2 ⟨⟨v2, rfl, oR⟩, b2⟩
  rw [← HRD.out] at oR
  obtain ⟨gr, rcap, rfl, hgr1, hgr2⟩ := oR.blk hR1
  have B2 := B1.trans (b2.mono B1.size)
  clear b2 o1 B1
  go_wp2_with fail
  refine (toStringS_any a cap ls _ (HR.out.below B2) hn).mono ?_
  rintro e w3 ⟨rfl, oX, b3⟩
  have oR := oR.below b3
  have s3 : w2.heap.size < w3.heap.size := (oX.lt w2.heap.size rfl).2
  have B3 := B2.trans (b3.mono B2.size)
  clear b3
  go_wp2_with fail
  refine (report_any _ _ ls _ oX.rowL hn HSM.out (HG.out.below B3)).mono ?_
  rintro e w4 ⟨⟨v4, rfl, oG⟩, b4⟩
  rw [← HRD.out] at oG
  obtain ⟨gg, gcap, rfl, hgg1, hgg2⟩ := oG.blk hR1
  have oR := oR.below b4
  have oX := oX.below b4
  have B4 := B3.trans (b4.mono B3.size)
  clear b4 B3
  go_wp2_with fail
  refine (eqStringS_any _ _ _ _ R _ oG.rowL oR.rowL (by omega)).mono ?_
  rintro e w5 ⟨rfl, b5⟩
  have oR := oR.below b5
  have oX := oX.below b5
  have oG := oG.below b5
  have B5 := B4.trans (b5.mono B4.size)
  clear b5 B4
  go_wp2_with fail
  refine (toStringS_any a cap ls _ (HR.out.below B5) hn).mono ?_
  rintro e w6 ⟨rfl, oC, b6⟩
  have oR := oR.below b6
  have oX := oX.below b6
  have oG := oG.below b6
  have B6 := B5.trans (b6.mono B5.size)
  clear b6
  go_wp2_with fail
  refine (eqStringS_any _ _ _ _ ls _ oX.rowL oC.rowL (by omega)).mono ?_
  rintro e w7 ⟨rfl, b7⟩
  have oR := oR.below b7
  have oX := oX.below b7
  have oG := oG.below b7
  have B7 := B6.trans (b7.mono B6.size)
  have s7 := B7.size
  clear b7 B6 B5 oC
  go_wp2_with fail
  refine (markStringS_any w2.heap.size ls.length ls 1 _ _ oX hn (by decide) (by decide)).mono ?_
  rintro e w8 ⟨rfl, -, g8⟩
  have oR := own_off oR g8 (fun k hk => by simp only [Value.ownBlock, Option.some.injEq] at hk; omega)
  have oG := own_off oG g8 (fun k hk => by simp only [Value.ownBlock, Option.some.injEq] at hk; omega)
  have B8 := B7.trans (gb_to_below g8 B2.size s7)
  have hk0 : ¬ (((1 : Nat) : Int) + (ls.length : Nat) < 0) := by omega
  clear g8 B7 oX s7
  go_wp2_with fail
  refine (eqStringS_any _ _ _ _ R _ oG.rowL oR.rowL (by omega)).mono ?_
  rintro e w9 ⟨rfl, b9⟩
  have oR := oR.below b9
  have oG := oG.below b9
  have B9 := B8.trans (b9.mono B8.size)
  have s9 := B9.size
  clear b9 B8
  go_wp2_with fail
  refine (markStringS_any gg gcap R 1 _ _ oG (by omega) (by decide) (by decide)).mono ?_
  rintro e w10 ⟨rfl, oM, g10⟩
  have oR := own_off oR g10 (fun k hk => by simp only [Value.ownBlock, Option.some.injEq] at hk; omega)
  have hwg : w.heap.size ≤ gg := by have := B2.size; omega
  have B10 := B9.trans (gb_to_below g10 hwg s9)
  obtain ⟨m, hmm⟩ : ∃ m : Int, m = ((1 : Nat) : Int) + (R.length : Nat) := ⟨_, rfl⟩
  have hm0 : ¬ m < 0 := by omega
  have HMM := Lib.hid hmm
  have oM' : OwnL w10 w3.heap.size (.slice (some ⟨gg, 0, none⟩) (mks 1 R.length).length gcap) (mks 1 R.length) := by rw [mks_len]; exact oM
  rw [← hmm]
  clear g10 B9 oG oM s9 hk0 hmm
  go_wp2_with fail
  refine (heldStringS_any _ gcap R.length 1 _ oM'.rowL (by omega) (by decide) (by decide)).mono ?_
  rintro e w11 ⟨rfl, b11⟩
  rw [← HMM.out]
  have oR := oR.below b11
  have oM' := oM'.below b11
  have B11 := B10.trans (b11.mono B10.size)
  clear b11 B10
  go_wp2_with fail
  refine (toStringS_any a cap ls _ (HR.out.below B11) hn).mono ?_
  rintro e w12 ⟨rfl, o12, b12⟩
  have oR := oR.below b12
  have oM' := oM'.below b12
  have B12 := B11.trans (b12.mono B11.size)
  clear b12 B11
  go_wp2_with fail
  refine (report_any _ _ ls _ o12.rowL hn HSM.out (HG.out.below B12)).mono ?_
  rintro e w13 ⟨⟨v13, rfl, o13⟩, b13⟩
  rw [← HRD.out] at o13
  obtain ⟨g13, c13, rfl, -, -⟩ := o13.blk hR1
  have oR := oR.below b13
  have oM' := oM'.below b13
  have B13 := B12.trans (b13.mono B12.size)
  clear b13 B12 o12
  go_wp2_with fail
  refine (eqStringS_any _ _ _ _ R _ o13.rowL oR.rowL (by omega)).mono ?_
  rintro e w14 ⟨rfl, b14⟩
  have oM' := oM'.below b14
  have B14 := B13.trans (b14.mono B13.size)
  clear b14 B13 oR o13
  go_wp2_with fail
  refine (heldStringS_any _ gcap R.length 1 _ oM'.rowL (by omega) (by decide) (by decide)).mono ?_
  rintro e w15 ⟨rfl, b15⟩
  rw [← HMM.out]
  have B15 := Lib.hid (B14.trans (b15.mono B14.size))
  clear b15 B14 oM'
  go_wp2
  go_ret
  exact ⟨rfl, B15.out⟩

end Go.Proofs.YtdgihkmiolnglaaGreatDoor
