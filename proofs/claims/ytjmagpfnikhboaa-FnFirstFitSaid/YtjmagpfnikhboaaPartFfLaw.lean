/- The walk of laws.FnFirstFit, for whatever code. Condition: the argument is a slice of bytes. -/
import Derived.Test.YtjmagpfnikhboaaPartImpl
import Derived.Test.YtjmagpfnikhboaaPartDraws
import Derived.Test.YtjmagpfnikhboaaSame
import Derived.Test.YtjmagpfnikhboaaDemImpl
namespace Go.Proofs.Ytjmagpfnikhboaa
open Go.RowKit Go.Deep

/-- Processors as numbers that Go reads. -/
def zsI (r : List Nat) : List Int := r.map fun x => ((x : Nat) : Int)
theorem zsI_len (r : List Nat) : (zsI r).length = r.length := by simp [zsI]
theorem zsI_get (r : List Nat) : (fun k => (zsI r).getD k 0) = nz r := by
  funext k
  unfold zsI nz
  rw [List.getD_eq_getElem?_getD, List.getD_eq_getElem?_getD, List.getElem?_map]
  cases r[k]? <;> rfl
theorem zsI_av {ts : List T3} {N : Nat} {r : List Nat} (hv : svB ts = true) (hN : 1 ≤ N ∧ N ≤ 5) (h : part ts N = some r) : avB ts (N : Int) (zsI r) = true := by
  obtain ⟨h1, h2, _⟩ := part_some h
  refine avB_iff.2 ⟨hv, by omega, by rw [zsI_len]; exact h1, fun k hk => ?_⟩
  rw [zsI_len] at hk
  have := h2 k (by omega)
  have e : (zsI r).getD k 0 = nz r k := congrFun (zsI_get r) k
  rw [e]
  unfold nz
  omega
theorem ff_bdF (ts : List T3) (c : Int) : ((ffO ts c).getD []).length ≤ ts.length := by
  unfold ffO
  split
  · cases h : ff ts c.toNat with
    | none => exact Nat.zero_le _
    | some gs => exact Nat.le_of_eq (ffN_some h).1
  · exact Nat.zero_le _
theorem ffO_one (ts : List T3) : (ffO ts 1).isSome = edf ts := by
  unfold ffO
  cases hv : svB ts with
  | false =>
    rw [if_neg (by simp), edf_no hv]
    rfl
  | true =>
    rw [if_pos ⟨rfl, by omega, by omega⟩]
    show (ffN ts 1 ts.length).isSome = edf ts
    rw [ffN_one (Nat.le_refl _), List.take_length]
    cases edf ts <;> rfl

set_option maxRecDepth 100000 in
set_option maxHeartbeats 4000000 in
/-- laws.FnFirstFit. -/
theorem fnFirstFit_walk (a : Option Addr) (len cap : Nat) (w : World) (hb : Byts w a len cap) :
    Calls Try.prog 6 #[.slice a len cap] w fun e w' => e = .returned (.bool true) ∧ Below w.heap.size w w' := by
  have hm : cap ≤ maxLen := hb.2.2
  have hlc : len ≤ cap := hb.2.1
  unfold maxLen at hm
  have HB := Lib.hid hb
  clear hb
  by_cases hl : 1048576 < len
  · have hl' : (1048576 : Int) < len := by omega
    go_enter Try.func6, Try.ntmps6
    go_wp2
    go_ret
    exact ⟨rfl, Below.refl _ _⟩
  have hl' : ¬ (1048576 : Int) < len := by omega
  go_enter Try.func6, Try.ntmps6
  go_wp2_with fail
  refine (drawFirstFit_any _ _ _ _ HB.out).mono ?_
  rintro e w1 ⟨g, cap1, ts, c, rfl, hn, hlc1, hcm1, hcb, hr1, b1⟩
  have R1 := Lib.hid hr1
  clear hr1
  clear HB
  obtain ⟨i0, hi0, hz, hsz, hby⟩ := info_parts taskInfo
  have HI := Lib.hid (And.intro hi0 (And.intro hz (And.intro hsz hby)))
  clear hi0 hz hsz hby
  have hfb := ff_bdF ts c
  go_wp2_with fail
  refine (firstFit_any _ _ ts c _ R1.out (by omega)).mono ?_
  rintro e w2 ⟨⟨v, rfl, ho2⟩, b2⟩
  obtain ⟨sa, sc, rfl⟩ := own_shape ho2
  have B2 := b1.trans (b2.mono b1.size)
  have R2 := Lib.hid (R1.out.below b2)
  have O2 := Lib.hid ho2.intF'
  clear b1 b2 R1 ho2
  go_wp2_with fail
  refine (specFirstFit_any _ _ ts c _ R2.out (by omega)).mono ?_
  rintro e w3 ⟨⟨v, rfl, ho3⟩, b3⟩
  obtain ⟨ta, tc, rfl⟩ := own_shape ho3
  have B3 := B2.trans (b3.mono B2.size)
  have R3 := Lib.hid (R2.out.below b3)
  have O3 := Lib.hid (O2.out.below b3)
  have Q3 := Lib.hid ho3.intF'
  clear b3 R2 O2 B2 ho3
  go_wp2_with fail
  refine (sameInts_same _ _ _ _ _ _ _ O3.out Q3.out (by omega)).mono ?_
  rintro e w4 ⟨rfl, m4, hw4⟩
  have b4 : Below w3.heap.size w3 w4 := by rw [hw4]; exact below_drewN _ _
  have B4 := Lib.hid (B3.trans (b4.mono B3.size))
  have R4 := Lib.hid (R3.out.below b4)
  have O4 := Lib.hid (O3.out.below b4)
  clear hw4 b4 R3 O3 Q3 B3
  have HF1 := Lib.hid (fun (W : World) (hW : Below w4.heap.size w4 W) => firstFit_any (some ⟨g, 0, none⟩) cap1 ts 1 W (R4.out.below hW) (by omega))
  cases hF : ffO ts c with
  | none =>
    simp only [Option.getD_none, List.length_nil, Option.isSome_none]
    clear hF
    go_wp2_with fail
    refine (HF1.out _ (Below.refl _ _)).mono ?_
    rintro e w5 ⟨⟨v, rfl, ho5⟩, b5⟩
    obtain ⟨ua, uc, rfl⟩ := own_shape ho5
    rw [ffO_one]
    have B5 := Lib.hid (B4.out.trans (b5.mono B4.out.size))
    have R5 := Lib.hid (R4.out.below b5)
    clear ho5 b5 HF1
    go_wp2_with fail
    refine (edfFeasible_any _ _ ts _ R5.out (by omega)).mono ?_
    rintro e w6 ⟨rfl, b6⟩
    have B6 := Lib.hid (B5.out.trans (b6.mono B5.out.size))
    clear b6
    cases edf ts with
    | true =>
      go_wp2_with fail
      refine (alive_any _).mono ?_
      rintro e w7 ⟨rfl, b7⟩
      go_wp2
      go_ret
      exact ⟨rfl, B6.out.trans (b7.mono B6.out.size)⟩
    | false =>
      go_wp2_with fail
      refine (alive_any _).mono ?_
      rintro e w7 ⟨rfl, b7⟩
      go_wp2
      go_ret
      exact ⟨rfl, B6.out.trans (b7.mono B6.out.size)⟩
  | some gs =>
    have hcond : svB ts = true ∧ 1 ≤ c ∧ c ≤ 5 := by
      unfold ffO at hF
      split at hF
      · assumption
      · simp at hF
    obtain ⟨hv, hc1, hc5⟩ := hcond
    have hff : ffN ts c.toNat ts.length = some gs := by
      rw [show ffO ts c = ff ts c.toNat from if_pos ⟨hv, hc1, hc5⟩] at hF
      exact hF
    obtain ⟨g1, g2, g3, g4⟩ := ffN_some hff
    rw [hF] at O4
    have hl5 : ts.length ≤ 5 := (sv_all hv).2
    have HV := Lib.hid hv
    have HGL := Lib.hid g1
    have HFT := Lib.hid (fun i (hi : i < ts.length) d (hd : d < gs.getD i 0) => (g4 i hi).2 d hd)
    have HXB := Lib.hid (fun i (hi : i < ts.length) => show gs.getD i 0 < 5 from Nat.lt_of_lt_of_le (g2 i hi) (by omega))
    have HAF := Lib.hid (show afB ts c (zsI gs) = true from afB_iff.2 ⟨avB_iff.2 ⟨hv, by omega, by rw [zsI_len]; exact g1, fun k hk => by
      rw [zsI_len] at hk
      have e : (zsI gs).getD k 0 = nz gs k := congrFun (zsI_get gs) k
      have := g2 k (by omega)
      rw [e]
      unfold nz
      omega⟩, by rw [zsI_len, zsI_get, g1]; exact g3⟩)
    have OZ := Lib.hid (show IntF w4 sa (zsI gs).length fun k => (zsI gs).getD k 0 by rw [zsI_len, zsI_get]; exact O4.out)
    simp only [Option.getD_some, Option.isSome_some]
    have hgb : gs.length ≤ 5 := by omega
    clear hF hff g1 g2 g3 g4 hv
    go_wp2_with fail
    refine (HF1.out _ (Below.refl _ _)).mono ?_
    rintro e w5 ⟨⟨v, rfl, ho5⟩, b5⟩
    obtain ⟨ua, uc, rfl⟩ := own_shape ho5
    rw [ffO_one]
    have B5 := Lib.hid (B4.out.trans (b5.mono B4.out.size))
    have R5 := Lib.hid (R4.out.below b5)
    have O5 := Lib.hid (O4.out.below b5)
    have Z5 := Lib.hid (OZ.out.below b5)
    clear ho5 b5 HF1 R4 O4 OZ
    go_wp2_with fail
    refine (edfFeasible_any _ _ ts _ R5.out (by omega)).mono ?_
    rintro e w6 ⟨rfl, b6⟩
    have B6 := Lib.hid (B5.out.trans (b6.mono B5.out.size))
    have R6 := Lib.hid (R5.out.below b6)
    have O6 := Lib.hid (show IntF w6 sa gs.length (nz gs) from O5.out.below b6)
    have Z6 := Lib.hid (Z5.out.below b6)
    clear b6 R5 O5 Z5
    obtain ⟨ed, hed⟩ : ∃ ed, ed = edf ts := ⟨_, rfl⟩
    rw [← hed]
    clear hed
    have hne : (ed != ed) = false := by simp
    go_wp2
    go_loopg [11] ts.length (fun q z wr => ∃ i : Nat, q + i = ts.length ∧ z = .int .i64 i ∧ Below w6.heap.size w6 wr)
    case atStart => exact ⟨0, by omega, rfl, Below.refl _ _⟩
    case round =>
      obtain ⟨i, hq, rfl, B⟩ := hrel
      have HQ := Lib.hid hq
      have HBI := Lib.hid B
      have hii : i ≤ ts.length := by omega
      obtain ⟨GG, hGG⟩ : ∃ GG, GG = gk := ⟨_, rfl⟩
      have HGG := Lib.hid hGG
      clear hq B hGG
      by_cases hin : i < ts.length
      · have hi0 : (0 : Int) ≤ i := by omega
        have hi1 : (i : Int) < ts.length := by omega
        have hi2 : (i : Int) < gs.length := by have := HGL.out; omega
        have hXB := HXB.out i hin
        have HFX := Lib.hid (HFT.out i hin)
        obtain ⟨X, hX⟩ : ∃ X, X = gs.getD i 0 := ⟨_, rfl⟩
        rw [← hX] at hXB HFX
        have HX := Lib.hid (show nz gs i = (X : Int) by rw [hX]; rfl)
        clear hX
        go_wp2
        go_loopg [12] X (fun q z wr2 => ∃ d : Nat, q + d = X ∧ z = .int .i64 d ∧ Below w6.heap.size w6 wr2)
        case atStart => exact ⟨0, by omega, rfl, HBI.out⟩
        case round =>
          obtain ⟨d, hd, rfl, B⟩ := hrel
          have HD := Lib.hid hd
          have HBD := Lib.hid B
          have hdX : d ≤ X := by omega
          obtain ⟨G2, hG2⟩ : ∃ G2, G2 = gk := ⟨_, rfl⟩
          have HG2 := Lib.hid hG2
          obtain ⟨wm, hwm⟩ : ∃ wm, wm = wr := ⟨_, rfl⟩
          rw [← hwm] at HBD ⊢
          clear hd B hG2 hwm
          obtain ⟨b, off, rfl, hbs, x0⟩ := (O6.out.below HBD.out) i (by have := HGL.out; omega)
          rw [HX.out] at x0
          by_cases hlt : d < X
          · have hd1 : (d : Int) < X := by omega
            go_wp2
            go_loopg [13, 14] i (fun q s z wr3 => ∃ j : Nat, q + j = i ∧ z = .int .i64 j ∧ Own wr3 wm.heap.size s (onN ts (nz gs) (d : Nat) j) ∧ Below wm.heap.size wm wr3)
            case atStart => exact ⟨0, by omega, rfl, own_zeroT _, below_box _ _⟩
            case round =>
              obtain ⟨j, hj, rfl, hown, B⟩ := hrel
              have HJ := Lib.hid hj
              have HW := Lib.hid hown
              have HB := Lib.hid B
              have hji : j ≤ i := by omega
              have hlen := onN_len ts (nz gs) (d : Nat) j
              have HBW := Lib.hid (HBD.out.trans (B.mono HBD.out.size))
              clear hj hown B x0
              by_cases hjl : j < i
              · obtain ⟨b', off', e', hbs', x1⟩ := (O6.out.below HBW.out) j (by have := HGL.out; omega)
                simp only [Option.some.injEq, Addr.mk.injEq, and_true] at e'
                obtain ⟨rfl, rfl⟩ := e'
                obtain ⟨bt, ot, et, hbt, e0, e1, e2⟩ := (R6.out.below HBW.out).at (show j < ts.length by omega)
                simp only [Option.some.injEq, Addr.mk.injEq, and_true] at et
                obtain ⟨rfl, rfl⟩ := et
                simp only [Nat.zero_add] at e0 e1 e2
                obtain ⟨y, hy⟩ : ∃ y, y = nz gs j := ⟨_, rfl⟩
                rw [← hy] at x1
                have hj0 : (0 : Int) ≤ j := by omega
                have hj1 : (j : Int) < i := by omega
                have hj2 : (j : Int) < gs.length := by omega
                have hj3 : (j : Int) < ts.length := by omega
                by_cases he : y = (d : Int)
                · have HS := Lib.hid (show onN ts (nz gs) (d : Nat) (j + 1) = onN ts (nz gs) (d : Nat) j ++ [tk ts j] from if_pos (hy.symm.trans he))
                  have heb : (y == (d : Int)) = true := beq_iff_eq.2 he
                  obtain ⟨⟨C, D, Q⟩, ht⟩ : ∃ t, t = tk ts j := ⟨_, rfl⟩
                  rw [← ht] at e0 e1 e2 HS
                  simp only at e0 e1 e2
                  clear hy he ht
                  go_wp2_with (at_builtin; refine wpList_append_own _ rfl (.tmp 87) (.tmp 92) 23 rfl wm.heap.size 36 i0 _ 3 24 Try.underlying23 HI.out.1 HI.out.2.1 HI.out.2.2.1 HI.out.2.2.2 rfl (by decide) _ (onN ts (nz gs) (d : Nat) j).length (flat (onN ts (nz gs) (d : Nat) j)) rfl (World.ownsRow.alloc HW.out _) ⟨wr.heap.size, 0, none⟩ 1 1 [.int .i64 C, .int .i64 D, .int .i64 Q] rfl rfl (news3 _ _ _ _ _) (one3 _ _ _) (by unfold maxLen; omega) (by omega) (Nat.le_trans HB.out.size (below_box _ _).size) ?_; intro v' w' hown' hgrow hnil)
                  have B1 := Lib.hid (show Below wm.heap.size wm w' from (HB.out.trans ((below_box wr _).mono HB.out.size)).grown hgrow (Nat.le_trans HB.out.size (below_box _ _).size) (fun k hk => (World.ownsRow.lt HW.out k hk).1))
                  have HO1 := Lib.hid (show Own w' wm.heap.size v' (onN ts (nz gs) (d : Nat) (j + 1)) by unfold Own; rw [HS.out, flat_snoc, List.length_append]; exact hown')
                  clear hown' hgrow hnil
                  go_roundg (gk - 1)
                  case measure => have := HJ.out; omega
                  case rel => exact ⟨j + 1, by have := HJ.out; omega, by go_num, HO1.out, B1.out⟩
                · have HS := Lib.hid (show onN ts (nz gs) (d : Nat) (j + 1) = onN ts (nz gs) (d : Nat) j from if_neg (by rw [← hy]; exact he))
                  have heb : (y == (d : Int)) = false := by simpa using he
                  clear hy he
                  go_wp2
                  go_roundg (gk - 1)
                  case measure => have := HJ.out; omega
                  case rel => exact ⟨j + 1, by have := HJ.out; omega, by go_num, by rw [HS.out]; exact HW.out, HB.out⟩
              · obtain rfl : j = i := by omega
                obtain ⟨bt, ot, et, hbt, e0, e1, e2⟩ := (R6.out.below HBW.out).at hin
                simp only [Option.some.injEq, Addr.mk.injEq, and_true] at et
                obtain ⟨rfl, rfl⟩ := et
                simp only [Nat.zero_add] at e0 e1 e2
                have HFF := Lib.hid (show edf (onN ts (nz gs) (d : Nat) j ++ [tk ts j]) = false from HFX.out d hlt)
                have hlen2 := onN_len ts (nz gs) (d : Nat) j
                obtain ⟨L, hL⟩ : ∃ L, L = onN ts (nz gs) (d : Nat) j := ⟨_, rfl⟩
                rw [← hL] at HFF HW hlen hlen2
                obtain ⟨⟨C, D, Q⟩, ht⟩ : ∃ t, t = tk ts j := ⟨_, rfl⟩
                rw [← ht] at e0 e1 e2 HFF
                simp only at e0 e1 e2
                clear hL ht
                go_wp2_with (at_builtin; refine wpList_append_own _ rfl (.tmp 94) (.tmp 99) 23 rfl wm.heap.size 36 i0 _ 3 24 Try.underlying23 HI.out.1 HI.out.2.1 HI.out.2.2.1 HI.out.2.2.2 rfl (by decide) _ L.length (flat L) rfl (World.ownsRow.alloc HW.out _) ⟨wr.heap.size, 0, none⟩ 1 1 [.int .i64 C, .int .i64 D, .int .i64 Q] rfl rfl (news3 _ _ _ _ _) (one3 _ _ _) (by unfold maxLen; omega) (by omega) (Nat.le_trans HB.out.size (below_box _ _).size) ?_; intro v' w' hown' hgrow hnil; have B1 := Lib.hid (show Below wm.heap.size wm w' from (HB.out.trans ((below_box wr _).mono HB.out.size)).grown hgrow (Nat.le_trans HB.out.size (below_box _ _).size) (fun k hk => (World.ownsRow.lt HW.out k hk).1)); have ho1 : Own w' wm.heap.size v' (L ++ [(C, D, Q)]) := (by unfold Own; rw [flat_snoc, List.length_append]; exact hown'); obtain ⟨L9, hL9⟩ : ∃ L9, L9 = L ++ [(C, D, Q)] := ⟨_, rfl⟩; rw [← hL9] at ho1 HFF; obtain ⟨a9, c9, rfl, hr9, -, -⟩ := ho1.row; have HR9 := Lib.hid hr9; have hl9 : L9.length ≤ 1000 := (by rw [hL9, List.length_append]; simp; omega); clear hown' hgrow hnil ho1 hr9 hL9)
                refine (edfFeasible_any _ _ L9 _ HR9.out (by omega)).mono ?_
                rintro e w10 ⟨rfl, b10⟩
                rw [HFF.out]
                have B10 := Lib.hid (HBD.out.trans ((B1.out.trans (b10.mono B1.out.size)).mono HBD.out.size))
                clear b10
                go_wp2
                go_roundg (G2 - 1)
                case measure => have := HD.out; have := HG2.out; omega
                case rel => exact ⟨d + 1, by have := HD.out; have := HG2.out; omega, by go_num, B10.out⟩
          · obtain rfl : d = X := by omega
            have hd1 : ¬ (d : Int) < d := by omega
            go_wp2
            go_roundg (GG - 1)
            case measure => have := HQ.out; have := HGG.out; omega
            case rel => exact ⟨i + 1, by have := HQ.out; have := HGG.out; omega, by go_num, HBD.out⟩
      · obtain rfl : i = ts.length := by omega
        have hc := assignmentFeasible_any (some ⟨g, 0, none⟩) sa cap1 sc ts c (zsI gs) wr (R6.out.below HBI.out) (Z6.out.below HBI.out) (by omega) (by rw [zsI_len]; omega)
        rw [zsI_len, HAF.out] at hc
        have HC := Lib.hid hc
        clear hc
        go_wp2_with fail
        refine HC.out.mono ?_
        rintro e w20 ⟨rfl, b20⟩
        go_wp2
        go_ret
        exact ⟨rfl, B6.out.trans ((HBI.out.trans (b20.mono HBI.out.size)).mono B6.out.size)⟩

end Go.Proofs.Ytjmagpfnikhboaa
