/- laws.sameStrings, spec.DrawReport. Conditions: those of each theorem. -/
import Derived.Test.YtdgihkmiolnglaaGreatDoorTxtRep
import Derived.BigQuiet
namespace Go.Proofs.YtdgihkmiolnglaaGreatDoor
open Go.RowKit Go.Deep

set_option maxRecDepth 100000 in
set_option maxHeartbeats 1000000 in
/-- laws.sameStrings at equal slices. -/
theorem sameStrings_any (a a' : Option Addr) (cap cap' : Nat) (ls : List (List UInt8)) (w : World) (hr : RowL w a ls) (hr' : RowL w a' ls) (hn : ls.length ≤ 1099511627776) :
    Calls Tryz.prog 7 #[.slice a ls.length cap, .slice a' ls.length cap'] w fun e w' => e = .returned (.bool true) ∧ Below w.heap.size w w' := by
  have HR := Lib.hid (And.intro hr hr')
  clear hr hr'
  go_enter Tryz.func7, Tryz.ntmps7
  go_wp2
  go_loopg [5] ls.length (fun n i wr => ∃ k : Nat, n + k = ls.length ∧ i = .int .i64 k ∧ Below w.heap.size w wr)
  case atStart => exact ⟨0, rfl, rfl, Below.refl _ _⟩
  case round =>
    obtain ⟨k, hk, rfl, hb⟩ := hrel
    have HK := Lib.hid hk
    have HB := Lib.hid hb
    have hk' : k ≤ ls.length := by omega
    clear hk hb
    by_cases hlt : k < ls.length
    · obtain ⟨b, off, rfl, hbs, c0⟩ := (HR.out.1.below HB.out) k hlt
      obtain ⟨b', off', rfl, hbs', d0⟩ := (HR.out.2.below HB.out) k hlt
      obtain ⟨X, hX⟩ : ∃ X, X = bs (ln ls k) := ⟨_, rfl⟩
      rw [← hX] at c0 d0
      have hk0 : (0 : Int) ≤ k := by omega
      have hk1 : (k : Int) < ls.length := by omega
      clear hX hbs hbs'
      go_wp2
      go_quiet (fail)
      go_wp2
      go_roundg (gk - 1)
      case measure => have := HK.out; omega
      case rel => exact ⟨k + 1, by have := HK.out; omega, by go_num, below_drewN' HB.out _⟩
    · have hk2 : k = ls.length := by omega
      subst hk2
      go_wp2
      go_ret
      exact ⟨rfl, HB.out⟩

/-- Some lines were drawn. -/
def DrawnL (w : World) (e : Ending) (w' : World) : Prop :=
  ∃ (v : Value) (ls : List (List UInt8)), e = .returned v ∧ OwnL w' w.heap.size v ls ∧ ls.length ≤ 13 ∧ (∀ l ∈ ls, l.length ≤ 20) ∧ Below w.heap.size w w'
theorem own_gb {w w' : World} {base rb : Nat} {v : Value} {ls : List (List UInt8)} (h : OwnL w base v ls) (hg : w.grownBy w' (some rb)) (hb : rb < base) : OwnL w' base v ls :=
  World.ownsRow.kept h hg (by
    cases e : v.ownBlock with
    | none => exact .inl rfl
    | some k => exact .inr (by have := (OwnL.lt h k e).1; simp only [ne_eq, Option.some.injEq]; omega))
/-- The three lines of spec.DrawReport. -/
def threeL : List (List UInt8) := [[], [116, 97, 115, 107, 32, 49, 32, 49, 32, 49], [110, 111, 116, 104, 105, 110, 103]]

set_option maxRecDepth 100000 in
set_option maxHeartbeats 8000000 in
/-- spec.DrawReport. -/
theorem drawReport_any (a : Option Addr) (len cap : Nat) (w : World) (hb : Byts w a len cap) :
    Calls Tryz.prog 5 #[.slice a len cap] w (DrawnL w) := by
  obtain ⟨h1, h2, h3⟩ := hb
  obtain ⟨s0, hsi, hszr, hssz, hsby⟩ := info_parts strInfo
  have HS := Lib.hid (And.intro hsi (And.intro hszr (And.intro hssz hsby)))
  have HT := Lib.hid h1
  clear h1 hsi hszr hssz hsby
  go_enter Tryz.func5, Tryz.ntmps5
  go_wp2_with fail
  refine (l20Open_any a len cap _ HT.out h2 h3).mono ?_
  rintro e w1 ⟨rfl, r1, b1, s1⟩
  go_wp2_with fail
  refine (l20Set_full _ 0 0 _ r1 (by omega)).mono ?_
  rintro e w2 ⟨sa, scap, ts, rfl, ht12, hlc, hcm, hrow, g2, r2, -, -⟩
  have B2 := Lib.hid (b1.trans (gb_to_below g2 (Nat.le_refl _) (by omega)))
  have R2 := Lib.hid r2
  have HRow := Lib.hid hrow
  have hrb : w.heap.size < w2.heap.size := by have := g2.size; omega
  clear b1 g2 r1 r2 hrow s1 hlc hcm
  go_wp2
  go_loopg [5, 6] ts.length (fun q vo vi wr => ∃ (i : Nat) (ls : List (List UInt8)), q + i = ts.length ∧ vi = .int .i64 (i : Int) ∧ ls.length = i ∧ OwnL wr w2.heap.size vo ls ∧ (∀ l ∈ ls, l.length ≤ 20) ∧ Below w2.heap.size w2 wr)
  case atStart => exact ⟨0, [], by simp, rfl, rfl, OwnL.empty w2, (fun l h => absurd h (by simp)), below_box _ _⟩
  case round =>
    obtain ⟨i, ls, hq, rfl, hli, hO, hall, B⟩ := hrel
    obtain ⟨oa, ocap, rfl⟩ := hO.shape
    have HQ := Lib.hid hq
    have HLI := Lib.hid hli
    have HO := Lib.hid hO
    have HALL := Lib.hid hall
    have HB := Lib.hid B
    have hil : i ≤ ts.length := by omega
    have hl13 : ls.length ≤ 12 := by omega
    clear hq hli hO hall B
    by_cases hi : i < ts.length
    · have hi0 : (0 : Int) ≤ i := by omega
      have hi1 : (i : Int) < ts.length := by omega
      obtain ⟨b, off, rfl, hbs, hc0, hc1, hc2⟩ := (HRow.out.below HB.out) i _ (List.getElem?_eq_getElem hi)
      obtain ⟨⟨c, d, p⟩, ht⟩ : ∃ t, t = ts[i] := ⟨_, rfl⟩
      rw [← ht] at hc0 hc1 hc2
      simp only at hc0 hc1 hc2
      clear ht hbs
      go_wp2_with fail
      refine (specFormatTask_any c d p _).mono ?_
      rintro e w4 ⟨rfl, b4⟩
      have hfl := fmtL_len c d p
      obtain ⟨l, hl⟩ : ∃ l, l = fmtL c d p := ⟨_, rfl⟩
      rw [← hl] at hfl ⊢
      have B4 := Lib.hid (HB.out.trans (b4.mono HB.out.size))
      have HO4 := Lib.hid (HO.out.below b4)
      clear hl b4 hc0 hc1 hc2
      go_wp2_with (at_builtin; refine wpList_append_own _ rfl (.tmp 18) (.tmp 24) 23 rfl w2.heap.size 9 s0 _ 1 16 Tryz.underlying23 HS.out.1 HS.out.2.1 HS.out.2.2.1 HS.out.2.2.2 rfl (by decide) _ ls.length (svals ls) rfl (World.ownsRow.alloc HO4.out _) ⟨w4.heap.size, 0, none⟩ 1 1 [.string (bs l)] rfl rfl (newsS _ _ _) (oneS _) (by unfold maxLen; omega) (by omega) (Nat.le_trans B4.out.size (below_box _ _).size) ?_; intro v' w' hown' hgrow hnil)
      have B5 : Below w2.heap.size w2 w' := (B4.out.trans ((below_box w4 _).mono B4.out.size)).grown hgrow (Nat.le_trans B4.out.size (below_box _ _).size) (fun k hk => (HO4.out.lt k hk).1)
      have HO5 := Lib.hid (OwnL.push hown')
      clear hown' hgrow hnil
      go_roundg (gk - 1)
      case measure => have := HQ.out; omega
      case rel =>
        refine ⟨i + 1, _, by have := HQ.out; omega, by go_num, by rw [List.length_append, HLI.out]; rfl, HO5.out, ?_, B5⟩
        intro x hx
        rcases List.mem_append.1 hx with h | h
        · exact HALL.out x h
        · simp only [List.mem_singleton] at h; subst h; omega
    · obtain rfl : i = ts.length := by omega
      go_wp2_with fail
      refine (odd_any _ _ 6 _ (R2.out.below HB.out) (by omega)).mono ?_
      rintro e w4 ⟨o, rfl, g4, r4⟩
      have HO4 := Lib.hid (own_gb HO.out g4 hrb)
      have B4 := Lib.hid ((B2.out.trans (HB.out.mono (Nat.le_of_lt hrb))).trans (gb_to_below g4 (Nat.le_refl _) (by have := HB.out.size; omega)))
      have B4s := g4.size
      have hw4 : w2.heap.size ≤ w4.heap.size := Nat.le_trans HB.out.size B4s
      have R4 := Lib.hid r4
      clear g4 r4 B4s
      cases o with
      | false =>
        go_wp2
        go_ret
        exact ⟨_, ls, rfl, HO4.out.mono (Nat.le_of_lt hrb), by omega, HALL.out, B4.out⟩
      | true =>
        go_wp2_with fail
        obtain ⟨W4, hW4⟩ : ∃ W4, W4 = w4.alloc (.cells (svals threeL).toArray 9) := ⟨_, rfl⟩
        have hcl : ∀ j : Nat, j < 3 → ∃ m : List UInt8, m.length ≤ 20 ∧ W4.cell? ⟨w4.heap.size, j, none⟩ = some (.string (bs m)) := by
          intro j hj
          refine ⟨ln threeL j, ?_, ?_⟩
          · have : ∀ m ∈ threeL, m.length ≤ 20 := by decide
            rw [ln_get (show j < threeL.length from hj)]
            exact this _ (List.getElem_mem _)
          · have h := svals_at (show j < threeL.length from hj)
            rw [hW4]
            simp [go_sem, ← Array.getElem?_toList, h]
            rfl
        have r4' : Rd W4 w.heap.size (0 + 200 + 1) := by rw [hW4]; exact R4.out.alloc _
        have B4' : Below w.heap.size w W4 := by rw [hW4]; exact B4.out.alloc B4.out.size _
        have O4' : OwnL W4 w2.heap.size (.slice oa ls.length ocap) ls := by rw [hW4]; exact HO4.out.alloc _
        have hlt4 : w4.heap.size < W4.heap.size := by rw [hW4]; simp
        refine Eq.mp (congrArg (fun X => Calls Tryz.prog _ _ X _) hW4) ?_
        clear hW4
        refine (pick_any _ _ 3 _ r4' (by omega)).mono ?_
        rintro e w5 ⟨i, rfl, hi0, hi1, -, g5, r5⟩
        have hi1 := hi1 (by omega)
        obtain ⟨j, rfl⟩ : ∃ j : Nat, i = j := ⟨i.toNat, by omega⟩
        obtain ⟨m, hm, hc⟩ := hcl j (by omega)
        have hc5 : w5.cell? ⟨w4.heap.size, j, none⟩ = some (.string (bs m)) := (gb_cell g5 (p := ⟨w4.heap.size, j, none⟩) hlt4 (by simp only; omega)).trans hc
        have B5 := Lib.hid (B4'.trans (gb_to_below g5 (Nat.le_refl _) B4'.size))
        have HO5 := Lib.hid (own_gb O4' g5 hrb)
        have hw5 : w2.heap.size ≤ w5.heap.size := by have := g5.size; omega
        have HM := Lib.hid hm
        clear hcl hc B4' g5 r4' hlt4 r5 hm O4'
        go_wp2_with (at_builtin; refine wpList_append_own _ rfl (.tmp 28) (.tmp 34) 23 rfl w2.heap.size 9 s0 _ 1 16 Tryz.underlying23 HS.out.1 HS.out.2.1 HS.out.2.2.1 HS.out.2.2.2 rfl (by decide) _ ls.length (svals ls) rfl (World.ownsRow.alloc HO5.out _) ⟨w5.heap.size, 0, none⟩ 1 1 [.string (bs m)] rfl rfl (newsS _ _ _) (oneS _) (by unfold maxLen; omega) (by omega) (Nat.le_trans hw5 (below_box _ _).size) ?_; intro v' w' hown' hgrow hnil)
        have B6 : Below w.heap.size w w' := (B5.out.trans ((below_box w5 _).mono B5.out.size)).grown hgrow (Nat.le_trans B5.out.size (below_box _ _).size) (fun k hk => Nat.le_trans (Nat.le_of_lt hrb) (HO5.out.lt k hk).1)
        have HO6 := Lib.hid (OwnL.push hown')
        have HB6 := Lib.hid B6
        clear hown' hgrow hnil B6
        go_wp2
        go_ret
        refine ⟨_, ls ++ [m], rfl, HO6.out.mono (Nat.le_of_lt hrb), by rw [List.length_append, List.length_singleton]; omega, ?_, HB6.out⟩
        intro x hx
        rcases List.mem_append.1 hx with h | h
        · exact HALL.out x h
        · simp only [List.mem_singleton] at h; subst h; exact HM.out

end Go.Proofs.YtdgihkmiolnglaaGreatDoor
