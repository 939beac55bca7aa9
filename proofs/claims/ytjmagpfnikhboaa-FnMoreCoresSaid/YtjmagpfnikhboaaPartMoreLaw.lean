/- The walk of laws.FnMoreCores, for whatever code. Condition: the argument is a slice of bytes. -/
import Derived.Test.YtjmagpfnikhboaaPartImpl
import Derived.Test.YtjmagpfnikhboaaPartDraws
import Derived.Test.YtjmagpfnikhboaaSame
import Derived.Test.YtjmagpfnikhboaaWithout
namespace Go.Proofs.Ytjmagpfnikhboaa
open Go.RowKit Go.Deep

theorem ffO_more {ts : List T3} {c : Int} {gs : List Nat} (h : ffO ts c = some gs) (h5 : c < 5) : ffO ts (c + 1) = some gs := by
  unfold ffO at h ⊢
  split at h
  · rename_i hc
    rw [if_pos ⟨hc.1, by omega, by omega⟩]
    exact ffN_more (n := c.toNat) (by omega) h
  · simp at h
theorem prO_more {ts : List T3} {c : Int} (h : (prO ts c).isSome = true) (h5 : c < 5) : (prO ts (c + 1)).isSome = true := by
  unfold prO at h ⊢
  split at h
  · rename_i hc
    rw [if_pos ⟨hc.1, by omega, by omega⟩]
    obtain ⟨r, hr⟩ := Option.isSome_iff_exists.1 h
    obtain ⟨q, hq⟩ := part_more hr
    rw [show (c + 1).toNat = c.toNat + 1 by omega, hq]
    rfl
  · simp at h
theorem ff_bd (ts : List T3) (c : Int) : ((ffO ts c).getD []).length ≤ ts.length := by
  unfold ffO
  split
  · cases h : ff ts c.toNat with
    | none => exact Nat.zero_le _
    | some gs => exact Nat.le_of_eq (ffN_some h).1
  · exact Nat.zero_le _

set_option maxRecDepth 100000 in
set_option maxHeartbeats 4000000 in
/-- laws.FnMoreCores. -/
theorem fnMoreCores_walk (a : Option Addr) (len cap : Nat) (w : World) (hb : Byts w a len cap) :
    Calls Try.prog 10 #[.slice a len cap] w fun e w' => e = .returned (.bool true) ∧ Below w.heap.size w w' := by
  have hm : cap ≤ maxLen := hb.2.2
  have hlc : len ≤ cap := hb.2.1
  unfold maxLen at hm
  have HB := Lib.hid hb
  clear hb
  by_cases hl : 1048576 < len
  · have hl' : (1048576 : Int) < len := by omega
    go_enter Try.func10, Try.ntmps10
    go_wp2
    go_ret
    exact ⟨rfl, Below.refl _ _⟩
  have hl' : ¬ (1048576 : Int) < len := by omega
  go_enter Try.func10, Try.ntmps10
  go_wp2_with fail
  refine (drawFirstFit_any _ _ _ _ HB.out).mono ?_
  rintro e w1 ⟨g, cap1, ts, c, rfl, hn, hlc1, hcm1, hcb, hr1, b1⟩
  have R1 := Lib.hid hr1
  clear hr1
  clear HB
  have hfb := ff_bd ts c
  go_wp2_with fail
  refine (firstFit_any _ _ ts c _ R1.out (by omega)).mono ?_
  rintro e w2 ⟨⟨v, rfl, ho2⟩, b2⟩
  obtain ⟨sa, sc, rfl⟩ := own_shape ho2
  have B2 := b1.trans (b2.mono b1.size)
  have R2 := Lib.hid (R1.out.below b2)
  have O2 := Lib.hid ho2.intF'
  clear b1 b2 R1 ho2
  go_wp2_with fail
  refine (specFirstFit_any _ _ ts c _ R2.out (by omega)).mono ?_
  rintro e w3 ⟨⟨v, rfl, ho3⟩, b3⟩
  obtain ⟨ta, tc, rfl⟩ := own_shape ho3
  have B3 := B2.trans (b3.mono B2.size)
  have R3 := Lib.hid (R2.out.below b3)
  have O3 := Lib.hid (O2.out.below b3)
  have Q3 := Lib.hid ho3.intF'
  clear b3 R2 O2 B2 ho3
  go_wp2_with fail
  refine (sameInts_same _ _ _ _ _ _ _ O3.out Q3.out (by omega)).mono ?_
  rintro e w4 ⟨rfl, m4, hw4⟩
  have b4 : Below w3.heap.size w3 w4 := by rw [hw4]; exact below_drewN _ _
  have B4 := Lib.hid (B3.trans (b4.mono B3.size))
  have R4 := Lib.hid (R3.out.below b4)
  have O4 := Lib.hid (O3.out.below b4)
  clear hw4 b4 R3 O3 Q3 B3
  obtain ⟨ok, hok⟩ : ∃ ok, ok = (ffO ts c).isSome := ⟨_, rfl⟩
  rw [← hok]
  have HOK := Lib.hid hok
  clear hok
  have HP := Lib.hid (fun (W : World) (hW : Below w4.heap.size w4 W) => partition_any (some ⟨g, 0, none⟩) cap1 ts c W (R4.out.below hW) (by omega))
  obtain ⟨ft, hft⟩ : ∃ ft, ft = (prO ts c).isSome := ⟨_, rfl⟩
  have HFT := Lib.hid hft
  clear hft
  cases ok with
  | true =>
    go_wp2_with fail
    refine (HP.out _ (Below.refl _ _)).mono ?_
    rintro e w5 ⟨⟨v, rfl, ho5⟩, b5⟩
    obtain ⟨pa, pc, rfl⟩ := own_shape ho5
    rw [← HFT.out]
    have B5 := Lib.hid (B4.out.trans (b5.mono B4.out.size))
    have R5 := Lib.hid (R4.out.below b5)
    have O5 := Lib.hid (O4.out.below b5)
    clear ho5 b5 HP R4 O4
    by_cases h5 : c < 5
    · by_cases h0 : 0 < c
      · have hw1 : IntKind.i64.wrap (c + 1) = c + 1 := IntWalk.i64_in _ (by omega)
        go_wp2_with fail
        refine (firstFit_any _ _ ts (c + 1) _ R5.out (by omega)).mono ?_
        rintro e w6 ⟨⟨v, rfl, ho6⟩, b6⟩
        obtain ⟨qa, qc, rfl⟩ := own_shape ho6
        have B6 := Lib.hid (B5.out.trans (b6.mono B5.out.size))
        have R6 := Lib.hid (R5.out.below b6)
        have O6 := Lib.hid (O5.out.below b6)
        have Q6 := Lib.hid ho6.intF'
        clear ho6 b6 R5 O5
        go_wp2_with fail
        refine (partition_any _ _ ts (c + 1) _ R6.out (by omega)).mono ?_
        rintro e w7 ⟨⟨v, rfl, ho7⟩, b7⟩
        obtain ⟨ra, rc, rfl⟩ := own_shape ho7
        have B7 := Lib.hid (B6.out.trans (b7.mono B6.out.size))
        have R7 := Lib.hid (R6.out.below b7)
        have O7 := Lib.hid (O6.out.below b7)
        have Q7 := Lib.hid (Q6.out.below b7)
        clear ho7 b7 R6 O6 Q6
        have HSM := Lib.hid (show ffO ts (c + 1) = ffO ts c by
          obtain ⟨gs, hgs⟩ := Option.isSome_iff_exists.1 HOK.out.symm
          rw [hgs]
          exact ffO_more hgs h5)
        rw [HSM.out] at Q7
        rw [HSM.out, ← HOK.out]
        cases ft with
        | true =>
          rw [prO_more HFT.out.symm h5]
          go_wp2_with fail
          refine (sameInts_same _ _ _ _ _ _ _ Q7.out O7.out (by omega)).mono ?_
          rintro e w8 ⟨rfl, m8, hw8⟩
          have b8 : Below w7.heap.size w7 w8 := by rw [hw8]; exact below_drewN _ _
          have B8 := Lib.hid (B7.out.trans (b8.mono B7.out.size))
          have R8 := Lib.hid (R7.out.below b8)
          clear hw8 b8
          go_wp2
          obtain ⟨wx, hwx⟩ : ∃ wx, wx = w8 := ⟨_, rfl⟩
          have HBX := Lib.hid (show Below w.heap.size w wx by rw [hwx]; exact B8.out)
          have RX := Lib.hid (show Row wx (some ⟨g, 0, none⟩) ts by rw [hwx]; exact R8.out)
          rw [← hwx]
          clear hwx
          go_loopg [15] ts.length (fun q z wr => ∃ i : Nat, q + i = ts.length ∧ z = .int .i64 i ∧ Below wx.heap.size wx wr)
          case atStart => exact ⟨0, by omega, rfl, Below.refl _ _⟩
          case round =>
            obtain ⟨i, hq, rfl, B⟩ := hrel
            have HQ := Lib.hid hq
            have HBK := Lib.hid B
            have hii : i ≤ ts.length := by omega
            clear hq B
            go_wp2_with fail
            refine (setValid_any _ _ ts _ (RX.out.below HBK.out) (by omega)).mono ?_
            rintro e w20 ⟨rfl, b20⟩
            have B20 := Lib.hid (HBK.out.trans (b20.mono HBK.out.size))
            clear b20
            cases hs : svB ts with
            | false =>
              clear hs
              go_wp2_with fail
              refine (alive_any _).mono ?_
              rintro e w21 ⟨rfl, b21⟩
              go_wp2
              go_ret
              exact ⟨rfl, HBX.out.trans ((B20.out.trans (b21.mono B20.out.size)).mono HBX.out.size)⟩
            | true =>
              by_cases hin : i < ts.length
              · have hi0 : (0 : Int) ≤ i := by omega
                have hi1 : (i : Int) < ts.length := by omega
                have hle : mcO (wo ts i) ≤ mcO ts := by
                  unfold mcO
                  rw [if_pos (sv_wo hs i), if_pos hs]
                  exact mcN_wo hs hin
                have hwl := wo_length hin
                clear hs
                go_wp2_with fail
                refine (without_any _ _ i ts _ (RX.out.below B20.out) hin hn hlc1 hcm1).mono ?_
                rintro e w21 ⟨a21, c21, rfl, -, -, r21, b21⟩
                have R21 := Lib.hid r21
                have B21 := Lib.hid (B20.out.trans (b21.mono B20.out.size))
                clear r21 b21
                go_wp2_with fail
                refine (minCores_any _ _ (wo ts i) _ R21.out (by omega)).mono ?_
                rintro e w22 ⟨rfl, b22⟩
                have B22 := Lib.hid (B21.out.trans (b22.mono B21.out.size))
                clear b22
                go_wp2_with fail
                refine (minCores_any _ _ ts _ (RX.out.below B22.out) (by omega)).mono ?_
                rintro e w23 ⟨rfl, b23⟩
                have B23 := Lib.hid (B22.out.trans (b23.mono B22.out.size))
                have hle' : ¬ ((mcO ts : Nat) : Int) < ((mcO (wo ts i) : Nat) : Int) := by omega
                clear b23 hwl
                go_wp2
                go_roundg (gk - 1)
                case measure => have := HQ.out; omega
                case rel => exact ⟨i + 1, by have := HQ.out; omega, by go_num, B23.out⟩
              · obtain rfl : i = ts.length := by omega
                clear hs
                go_wp2_with fail
                refine (alive_any _).mono ?_
                rintro e w21 ⟨rfl, b21⟩
                go_wp2
                go_ret
                exact ⟨rfl, HBX.out.trans ((B20.out.trans (b21.mono B20.out.size)).mono HBX.out.size)⟩
        | false =>
          go_wp2_with fail
          refine (sameInts_same _ _ _ _ _ _ _ Q7.out O7.out (by omega)).mono ?_
          rintro e w8 ⟨rfl, m8, hw8⟩
          have b8 : Below w7.heap.size w7 w8 := by rw [hw8]; exact below_drewN _ _
          have B8 := Lib.hid (B7.out.trans (b8.mono B7.out.size))
          have R8 := Lib.hid (R7.out.below b8)
          clear hw8 b8
          go_wp2
          obtain ⟨wx, hwx⟩ : ∃ wx, wx = w8 := ⟨_, rfl⟩
          have HBX := Lib.hid (show Below w.heap.size w wx by rw [hwx]; exact B8.out)
          have RX := Lib.hid (show Row wx (some ⟨g, 0, none⟩) ts by rw [hwx]; exact R8.out)
          rw [← hwx]
          clear hwx
          go_loopg [15] ts.length (fun q z wr => ∃ i : Nat, q + i = ts.length ∧ z = .int .i64 i ∧ Below wx.heap.size wx wr)
          case atStart => exact ⟨0, by omega, rfl, Below.refl _ _⟩
          case round =>
            obtain ⟨i, hq, rfl, B⟩ := hrel
            have HQ := Lib.hid hq
            have HBK := Lib.hid B
            have hii : i ≤ ts.length := by omega
            clear hq B
            go_wp2_with fail
            refine (setValid_any _ _ ts _ (RX.out.below HBK.out) (by omega)).mono ?_
            rintro e w20 ⟨rfl, b20⟩
            have B20 := Lib.hid (HBK.out.trans (b20.mono HBK.out.size))
            clear b20
            cases hs : svB ts with
            | false =>
              clear hs
              go_wp2_with fail
              refine (alive_any _).mono ?_
              rintro e w21 ⟨rfl, b21⟩
              go_wp2
              go_ret
              exact ⟨rfl, HBX.out.trans ((B20.out.trans (b21.mono B20.out.size)).mono HBX.out.size)⟩
            | true =>
              by_cases hin : i < ts.length
              · have hi0 : (0 : Int) ≤ i := by omega
                have hi1 : (i : Int) < ts.length := by omega
                have hle : mcO (wo ts i) ≤ mcO ts := by
                  unfold mcO
                  rw [if_pos (sv_wo hs i), if_pos hs]
                  exact mcN_wo hs hin
                have hwl := wo_length hin
                clear hs
                go_wp2_with fail
                refine (without_any _ _ i ts _ (RX.out.below B20.out) hin hn hlc1 hcm1).mono ?_
                rintro e w21 ⟨a21, c21, rfl, -, -, r21, b21⟩
                have R21 := Lib.hid r21
                have B21 := Lib.hid (B20.out.trans (b21.mono B20.out.size))
                clear r21 b21
                go_wp2_with fail
                refine (minCores_any _ _ (wo ts i) _ R21.out (by omega)).mono ?_
                rintro e w22 ⟨rfl, b22⟩
                have B22 := Lib.hid (B21.out.trans (b22.mono B21.out.size))
                clear b22
                go_wp2_with fail
                refine (minCores_any _ _ ts _ (RX.out.below B22.out) (by omega)).mono ?_
                rintro e w23 ⟨rfl, b23⟩
                have B23 := Lib.hid (B22.out.trans (b23.mono B22.out.size))
                have hle' : ¬ ((mcO ts : Nat) : Int) < ((mcO (wo ts i) : Nat) : Int) := by omega
                clear b23 hwl
                go_wp2
                go_roundg (gk - 1)
                case measure => have := HQ.out; omega
                case rel => exact ⟨i + 1, by have := HQ.out; omega, by go_num, B23.out⟩
              · obtain rfl : i = ts.length := by omega
                clear hs
                go_wp2_with fail
                refine (alive_any _).mono ?_
                rintro e w21 ⟨rfl, b21⟩
                go_wp2
                go_ret
                exact ⟨rfl, HBX.out.trans ((B20.out.trans (b21.mono B20.out.size)).mono HBX.out.size)⟩
      · have h0' : ¬ 0 < c := h0
        go_wp2
        obtain ⟨wx, hwx⟩ : ∃ wx, wx = w5 := ⟨_, rfl⟩
        have HBX := Lib.hid (show Below w.heap.size w wx by rw [hwx]; exact B5.out)
        have RX := Lib.hid (show Row wx (some ⟨g, 0, none⟩) ts by rw [hwx]; exact R5.out)
        rw [← hwx]
        clear hwx
        go_loopg [15] ts.length (fun q z wr => ∃ i : Nat, q + i = ts.length ∧ z = .int .i64 i ∧ Below wx.heap.size wx wr)
        case atStart => exact ⟨0, by omega, rfl, Below.refl _ _⟩
        case round =>
          obtain ⟨i, hq, rfl, B⟩ := hrel
          have HQ := Lib.hid hq
          have HBK := Lib.hid B
          have hii : i ≤ ts.length := by omega
          clear hq B
          go_wp2_with fail
          refine (setValid_any _ _ ts _ (RX.out.below HBK.out) (by omega)).mono ?_
          rintro e w20 ⟨rfl, b20⟩
          have B20 := Lib.hid (HBK.out.trans (b20.mono HBK.out.size))
          clear b20
          cases hs : svB ts with
          | false =>
            clear hs
            go_wp2_with fail
            refine (alive_any _).mono ?_
            rintro e w21 ⟨rfl, b21⟩
            go_wp2
            go_ret
            exact ⟨rfl, HBX.out.trans ((B20.out.trans (b21.mono B20.out.size)).mono HBX.out.size)⟩
          | true =>
            by_cases hin : i < ts.length
            · have hi0 : (0 : Int) ≤ i := by omega
              have hi1 : (i : Int) < ts.length := by omega
              have hle : mcO (wo ts i) ≤ mcO ts := by
                unfold mcO
                rw [if_pos (sv_wo hs i), if_pos hs]
                exact mcN_wo hs hin
              have hwl := wo_length hin
              clear hs
              go_wp2_with fail
              refine (without_any _ _ i ts _ (RX.out.below B20.out) hin hn hlc1 hcm1).mono ?_
              rintro e w21 ⟨a21, c21, rfl, -, -, r21, b21⟩
              have R21 := Lib.hid r21
              have B21 := Lib.hid (B20.out.trans (b21.mono B20.out.size))
              clear r21 b21
              go_wp2_with fail
              refine (minCores_any _ _ (wo ts i) _ R21.out (by omega)).mono ?_
              rintro e w22 ⟨rfl, b22⟩
              have B22 := Lib.hid (B21.out.trans (b22.mono B21.out.size))
              clear b22
              go_wp2_with fail
              refine (minCores_any _ _ ts _ (RX.out.below B22.out) (by omega)).mono ?_
              rintro e w23 ⟨rfl, b23⟩
              have B23 := Lib.hid (B22.out.trans (b23.mono B22.out.size))
              have hle' : ¬ ((mcO ts : Nat) : Int) < ((mcO (wo ts i) : Nat) : Int) := by omega
              clear b23 hwl
              go_wp2
              go_roundg (gk - 1)
              case measure => have := HQ.out; omega
              case rel => exact ⟨i + 1, by have := HQ.out; omega, by go_num, B23.out⟩
            · obtain rfl : i = ts.length := by omega
              clear hs
              go_wp2_with fail
              refine (alive_any _).mono ?_
              rintro e w21 ⟨rfl, b21⟩
              go_wp2
              go_ret
              exact ⟨rfl, HBX.out.trans ((B20.out.trans (b21.mono B20.out.size)).mono HBX.out.size)⟩
    · go_wp2
      obtain ⟨wx, hwx⟩ : ∃ wx, wx = w5 := ⟨_, rfl⟩
      have HBX := Lib.hid (show Below w.heap.size w wx by rw [hwx]; exact B5.out)
      have RX := Lib.hid (show Row wx (some ⟨g, 0, none⟩) ts by rw [hwx]; exact R5.out)
      rw [← hwx]
      clear hwx
      go_loopg [15] ts.length (fun q z wr => ∃ i : Nat, q + i = ts.length ∧ z = .int .i64 i ∧ Below wx.heap.size wx wr)
      case atStart => exact ⟨0, by omega, rfl, Below.refl _ _⟩
      case round =>
        obtain ⟨i, hq, rfl, B⟩ := hrel
        have HQ := Lib.hid hq
        have HBK := Lib.hid B
        have hii : i ≤ ts.length := by omega
        clear hq B
        go_wp2_with fail
        refine (setValid_any _ _ ts _ (RX.out.below HBK.out) (by omega)).mono ?_
        rintro e w20 ⟨rfl, b20⟩
        have B20 := Lib.hid (HBK.out.trans (b20.mono HBK.out.size))
        clear b20
        cases hs : svB ts with
        | false =>
          clear hs
          go_wp2_with fail
          refine (alive_any _).mono ?_
          rintro e w21 ⟨rfl, b21⟩
          go_wp2
          go_ret
          exact ⟨rfl, HBX.out.trans ((B20.out.trans (b21.mono B20.out.size)).mono HBX.out.size)⟩
        | true =>
          by_cases hin : i < ts.length
          · have hi0 : (0 : Int) ≤ i := by omega
            have hi1 : (i : Int) < ts.length := by omega
            have hle : mcO (wo ts i) ≤ mcO ts := by
              unfold mcO
              rw [if_pos (sv_wo hs i), if_pos hs]
              exact mcN_wo hs hin
            have hwl := wo_length hin
            clear hs
            go_wp2_with fail
            refine (without_any _ _ i ts _ (RX.out.below B20.out) hin hn hlc1 hcm1).mono ?_
            rintro e w21 ⟨a21, c21, rfl, -, -, r21, b21⟩
            have R21 := Lib.hid r21
            have B21 := Lib.hid (B20.out.trans (b21.mono B20.out.size))
            clear r21 b21
            go_wp2_with fail
            refine (minCores_any _ _ (wo ts i) _ R21.out (by omega)).mono ?_
            rintro e w22 ⟨rfl, b22⟩
            have B22 := Lib.hid (B21.out.trans (b22.mono B21.out.size))
            clear b22
            go_wp2_with fail
            refine (minCores_any _ _ ts _ (RX.out.below B22.out) (by omega)).mono ?_
            rintro e w23 ⟨rfl, b23⟩
            have B23 := Lib.hid (B22.out.trans (b23.mono B22.out.size))
            have hle' : ¬ ((mcO ts : Nat) : Int) < ((mcO (wo ts i) : Nat) : Int) := by omega
            clear b23 hwl
            go_wp2
            go_roundg (gk - 1)
            case measure => have := HQ.out; omega
            case rel => exact ⟨i + 1, by have := HQ.out; omega, by go_num, B23.out⟩
          · obtain rfl : i = ts.length := by omega
            clear hs
            go_wp2_with fail
            refine (alive_any _).mono ?_
            rintro e w21 ⟨rfl, b21⟩
            go_wp2
            go_ret
            exact ⟨rfl, HBX.out.trans ((B20.out.trans (b21.mono B20.out.size)).mono HBX.out.size)⟩
  | false =>
    go_wp2_with fail
    refine (HP.out _ (Below.refl _ _)).mono ?_
    rintro e w5 ⟨⟨v, rfl, ho5⟩, b5⟩
    obtain ⟨pa, pc, rfl⟩ := own_shape ho5
    rw [← HFT.out]
    have B5 := Lib.hid (B4.out.trans (b5.mono B4.out.size))
    have R5 := Lib.hid (R4.out.below b5)
    have O5 := Lib.hid (O4.out.below b5)
    clear ho5 b5 HP R4 O4
    by_cases h5 : c < 5
    · by_cases h0 : 0 < c
      · have hw1 : IntKind.i64.wrap (c + 1) = c + 1 := IntWalk.i64_in _ (by omega)
        go_wp2_with fail
        refine (firstFit_any _ _ ts (c + 1) _ R5.out (by omega)).mono ?_
        rintro e w6 ⟨⟨v, rfl, ho6⟩, b6⟩
        obtain ⟨qa, qc, rfl⟩ := own_shape ho6
        have B6 := Lib.hid (B5.out.trans (b6.mono B5.out.size))
        have R6 := Lib.hid (R5.out.below b6)
        have O6 := Lib.hid (O5.out.below b6)
        have Q6 := Lib.hid ho6.intF'
        clear ho6 b6 R5 O5
        go_wp2_with fail
        refine (partition_any _ _ ts (c + 1) _ R6.out (by omega)).mono ?_
        rintro e w7 ⟨⟨v, rfl, ho7⟩, b7⟩
        obtain ⟨ra, rc, rfl⟩ := own_shape ho7
        have B7 := Lib.hid (B6.out.trans (b7.mono B6.out.size))
        have R7 := Lib.hid (R6.out.below b7)
        have O7 := Lib.hid (O6.out.below b7)
        have Q7 := Lib.hid (Q6.out.below b7)
        clear ho7 b7 R6 O6 Q6
        cases ft with
        | true =>
          rw [prO_more HFT.out.symm h5]
          go_wp2
          obtain ⟨wx, hwx⟩ : ∃ wx, wx = w7 := ⟨_, rfl⟩
          have HBX := Lib.hid (show Below w.heap.size w wx by rw [hwx]; exact B7.out)
          have RX := Lib.hid (show Row wx (some ⟨g, 0, none⟩) ts by rw [hwx]; exact R7.out)
          rw [← hwx]
          clear hwx
          go_loopg [15] ts.length (fun q z wr => ∃ i : Nat, q + i = ts.length ∧ z = .int .i64 i ∧ Below wx.heap.size wx wr)
          case atStart => exact ⟨0, by omega, rfl, Below.refl _ _⟩
          case round =>
            obtain ⟨i, hq, rfl, B⟩ := hrel
            have HQ := Lib.hid hq
            have HBK := Lib.hid B
            have hii : i ≤ ts.length := by omega
            clear hq B
            go_wp2_with fail
            refine (setValid_any _ _ ts _ (RX.out.below HBK.out) (by omega)).mono ?_
            rintro e w20 ⟨rfl, b20⟩
            have B20 := Lib.hid (HBK.out.trans (b20.mono HBK.out.size))
            clear b20
            cases hs : svB ts with
            | false =>
              clear hs
              go_wp2_with fail
              refine (alive_any _).mono ?_
              rintro e w21 ⟨rfl, b21⟩
              go_wp2
              go_ret
              exact ⟨rfl, HBX.out.trans ((B20.out.trans (b21.mono B20.out.size)).mono HBX.out.size)⟩
            | true =>
              by_cases hin : i < ts.length
              · have hi0 : (0 : Int) ≤ i := by omega
                have hi1 : (i : Int) < ts.length := by omega
                have hle : mcO (wo ts i) ≤ mcO ts := by
                  unfold mcO
                  rw [if_pos (sv_wo hs i), if_pos hs]
                  exact mcN_wo hs hin
                have hwl := wo_length hin
                clear hs
                go_wp2_with fail
                refine (without_any _ _ i ts _ (RX.out.below B20.out) hin hn hlc1 hcm1).mono ?_
                rintro e w21 ⟨a21, c21, rfl, -, -, r21, b21⟩
                have R21 := Lib.hid r21
                have B21 := Lib.hid (B20.out.trans (b21.mono B20.out.size))
                clear r21 b21
                go_wp2_with fail
                refine (minCores_any _ _ (wo ts i) _ R21.out (by omega)).mono ?_
                rintro e w22 ⟨rfl, b22⟩
                have B22 := Lib.hid (B21.out.trans (b22.mono B21.out.size))
                clear b22
                go_wp2_with fail
                refine (minCores_any _ _ ts _ (RX.out.below B22.out) (by omega)).mono ?_
                rintro e w23 ⟨rfl, b23⟩
                have B23 := Lib.hid (B22.out.trans (b23.mono B22.out.size))
                have hle' : ¬ ((mcO ts : Nat) : Int) < ((mcO (wo ts i) : Nat) : Int) := by omega
                clear b23 hwl
                go_wp2
                go_roundg (gk - 1)
                case measure => have := HQ.out; omega
                case rel => exact ⟨i + 1, by have := HQ.out; omega, by go_num, B23.out⟩
              · obtain rfl : i = ts.length := by omega
                clear hs
                go_wp2_with fail
                refine (alive_any _).mono ?_
                rintro e w21 ⟨rfl, b21⟩
                go_wp2
                go_ret
                exact ⟨rfl, HBX.out.trans ((B20.out.trans (b21.mono B20.out.size)).mono HBX.out.size)⟩
        | false =>
          go_wp2
          obtain ⟨wx, hwx⟩ : ∃ wx, wx = w7 := ⟨_, rfl⟩
          have HBX := Lib.hid (show Below w.heap.size w wx by rw [hwx]; exact B7.out)
          have RX := Lib.hid (show Row wx (some ⟨g, 0, none⟩) ts by rw [hwx]; exact R7.out)
          rw [← hwx]
          clear hwx
          go_loopg [15] ts.length (fun q z wr => ∃ i : Nat, q + i = ts.length ∧ z = .int .i64 i ∧ Below wx.heap.size wx wr)
          case atStart => exact ⟨0, by omega, rfl, Below.refl _ _⟩
          case round =>
            obtain ⟨i, hq, rfl, B⟩ := hrel
            have HQ := Lib.hid hq
            have HBK := Lib.hid B
            have hii : i ≤ ts.length := by omega
            clear hq B
            go_wp2_with fail
            refine (setValid_any _ _ ts _ (RX.out.below HBK.out) (by omega)).mono ?_
            rintro e w20 ⟨rfl, b20⟩
            have B20 := Lib.hid (HBK.out.trans (b20.mono HBK.out.size))
            clear b20
            cases hs : svB ts with
            | false =>
              clear hs
              go_wp2_with fail
              refine (alive_any _).mono ?_
              rintro e w21 ⟨rfl, b21⟩
              go_wp2
              go_ret
              exact ⟨rfl, HBX.out.trans ((B20.out.trans (b21.mono B20.out.size)).mono HBX.out.size)⟩
            | true =>
              by_cases hin : i < ts.length
              · have hi0 : (0 : Int) ≤ i := by omega
                have hi1 : (i : Int) < ts.length := by omega
                have hle : mcO (wo ts i) ≤ mcO ts := by
                  unfold mcO
                  rw [if_pos (sv_wo hs i), if_pos hs]
                  exact mcN_wo hs hin
                have hwl := wo_length hin
                clear hs
                go_wp2_with fail
                refine (without_any _ _ i ts _ (RX.out.below B20.out) hin hn hlc1 hcm1).mono ?_
                rintro e w21 ⟨a21, c21, rfl, -, -, r21, b21⟩
                have R21 := Lib.hid r21
                have B21 := Lib.hid (B20.out.trans (b21.mono B20.out.size))
                clear r21 b21
                go_wp2_with fail
                refine (minCores_any _ _ (wo ts i) _ R21.out (by omega)).mono ?_
                rintro e w22 ⟨rfl, b22⟩
                have B22 := Lib.hid (B21.out.trans (b22.mono B21.out.size))
                clear b22
                go_wp2_with fail
                refine (minCores_any _ _ ts _ (RX.out.below B22.out) (by omega)).mono ?_
                rintro e w23 ⟨rfl, b23⟩
                have B23 := Lib.hid (B22.out.trans (b23.mono B22.out.size))
                have hle' : ¬ ((mcO ts : Nat) : Int) < ((mcO (wo ts i) : Nat) : Int) := by omega
                clear b23 hwl
                go_wp2
                go_roundg (gk - 1)
                case measure => have := HQ.out; omega
                case rel => exact ⟨i + 1, by have := HQ.out; omega, by go_num, B23.out⟩
              · obtain rfl : i = ts.length := by omega
                clear hs
                go_wp2_with fail
                refine (alive_any _).mono ?_
                rintro e w21 ⟨rfl, b21⟩
                go_wp2
                go_ret
                exact ⟨rfl, HBX.out.trans ((B20.out.trans (b21.mono B20.out.size)).mono HBX.out.size)⟩
      · have h0' : ¬ 0 < c := h0
        go_wp2
        obtain ⟨wx, hwx⟩ : ∃ wx, wx = w5 := ⟨_, rfl⟩
        have HBX := Lib.hid (show Below w.heap.size w wx by rw [hwx]; exact B5.out)
        have RX := Lib.hid (show Row wx (some ⟨g, 0, none⟩) ts by rw [hwx]; exact R5.out)
        rw [← hwx]
        clear hwx
        go_loopg [15] ts.length (fun q z wr => ∃ i : Nat, q + i = ts.length ∧ z = .int .i64 i ∧ Below wx.heap.size wx wr)
        case atStart => exact ⟨0, by omega, rfl, Below.refl _ _⟩
        case round =>
          obtain ⟨i, hq, rfl, B⟩ := hrel
          have HQ := Lib.hid hq
          have HBK := Lib.hid B
          have hii : i ≤ ts.length := by omega
          clear hq B
          go_wp2_with fail
          refine (setValid_any _ _ ts _ (RX.out.below HBK.out) (by omega)).mono ?_
          rintro e w20 ⟨rfl, b20⟩
          have B20 := Lib.hid (HBK.out.trans (b20.mono HBK.out.size))
          clear b20
          cases hs : svB ts with
          | false =>
            clear hs
            go_wp2_with fail
            refine (alive_any _).mono ?_
            rintro e w21 ⟨rfl, b21⟩
            go_wp2
            go_ret
            exact ⟨rfl, HBX.out.trans ((B20.out.trans (b21.mono B20.out.size)).mono HBX.out.size)⟩
          | true =>
            by_cases hin : i < ts.length
            · have hi0 : (0 : Int) ≤ i := by omega
              have hi1 : (i : Int) < ts.length := by omega
              have hle : mcO (wo ts i) ≤ mcO ts := by
                unfold mcO
                rw [if_pos (sv_wo hs i), if_pos hs]
                exact mcN_wo hs hin
              have hwl := wo_length hin
              clear hs
              go_wp2_with fail
              refine (without_any _ _ i ts _ (RX.out.below B20.out) hin hn hlc1 hcm1).mono ?_
              rintro e w21 ⟨a21, c21, rfl, -, -, r21, b21⟩
              have R21 := Lib.hid r21
              have B21 := Lib.hid (B20.out.trans (b21.mono B20.out.size))
              clear r21 b21
              go_wp2_with fail
              refine (minCores_any _ _ (wo ts i) _ R21.out (by omega)).mono ?_
              rintro e w22 ⟨rfl, b22⟩
              have B22 := Lib.hid (B21.out.trans (b22.mono B21.out.size))
              clear b22
              go_wp2_with fail
              refine (minCores_any _ _ ts _ (RX.out.below B22.out) (by omega)).mono ?_
              rintro e w23 ⟨rfl, b23⟩
              have B23 := Lib.hid (B22.out.trans (b23.mono B22.out.size))
              have hle' : ¬ ((mcO ts : Nat) : Int) < ((mcO (wo ts i) : Nat) : Int) := by omega
              clear b23 hwl
              go_wp2
              go_roundg (gk - 1)
              case measure => have := HQ.out; omega
              case rel => exact ⟨i + 1, by have := HQ.out; omega, by go_num, B23.out⟩
            · obtain rfl : i = ts.length := by omega
              clear hs
              go_wp2_with fail
              refine (alive_any _).mono ?_
              rintro e w21 ⟨rfl, b21⟩
              go_wp2
              go_ret
              exact ⟨rfl, HBX.out.trans ((B20.out.trans (b21.mono B20.out.size)).mono HBX.out.size)⟩
    · go_wp2
      obtain ⟨wx, hwx⟩ : ∃ wx, wx = w5 := ⟨_, rfl⟩
      have HBX := Lib.hid (show Below w.heap.size w wx by rw [hwx]; exact B5.out)
      have RX := Lib.hid (show Row wx (some ⟨g, 0, none⟩) ts by rw [hwx]; exact R5.out)
      rw [← hwx]
      clear hwx
      go_loopg [15] ts.length (fun q z wr => ∃ i : Nat, q + i = ts.length ∧ z = .int .i64 i ∧ Below wx.heap.size wx wr)
      case atStart => exact ⟨0, by omega, rfl, Below.refl _ _⟩
      case round =>
        obtain ⟨i, hq, rfl, B⟩ := hrel
        have HQ := Lib.hid hq
        have HBK := Lib.hid B
        have hii : i ≤ ts.length := by omega
        clear hq B
        go_wp2_with fail
        refine (setValid_any _ _ ts _ (RX.out.below HBK.out) (by omega)).mono ?_
        rintro e w20 ⟨rfl, b20⟩
        have B20 := Lib.hid (HBK.out.trans (b20.mono HBK.out.size))
        clear b20
        cases hs : svB ts with
        | false =>
          clear hs
          go_wp2_with fail
          refine (alive_any _).mono ?_
          rintro e w21 ⟨rfl, b21⟩
          go_wp2
          go_ret
          exact ⟨rfl, HBX.out.trans ((B20.out.trans (b21.mono B20.out.size)).mono HBX.out.size)⟩
        | true =>
          by_cases hin : i < ts.length
          · have hi0 : (0 : Int) ≤ i := by omega
            have hi1 : (i : Int) < ts.length := by omega
            have hle : mcO (wo ts i) ≤ mcO ts := by
              unfold mcO
              rw [if_pos (sv_wo hs i), if_pos hs]
              exact mcN_wo hs hin
            have hwl := wo_length hin
            clear hs
            go_wp2_with fail
            refine (without_any _ _ i ts _ (RX.out.below B20.out) hin hn hlc1 hcm1).mono ?_
            rintro e w21 ⟨a21, c21, rfl, -, -, r21, b21⟩
            have R21 := Lib.hid r21
            have B21 := Lib.hid (B20.out.trans (b21.mono B20.out.size))
            clear r21 b21
            go_wp2_with fail
            refine (minCores_any _ _ (wo ts i) _ R21.out (by omega)).mono ?_
            rintro e w22 ⟨rfl, b22⟩
            have B22 := Lib.hid (B21.out.trans (b22.mono B21.out.size))
            clear b22
            go_wp2_with fail
            refine (minCores_any _ _ ts _ (RX.out.below B22.out) (by omega)).mono ?_
            rintro e w23 ⟨rfl, b23⟩
            have B23 := Lib.hid (B22.out.trans (b23.mono B22.out.size))
            have hle' : ¬ ((mcO ts : Nat) : Int) < ((mcO (wo ts i) : Nat) : Int) := by omega
            clear b23 hwl
            go_wp2
            go_roundg (gk - 1)
            case measure => have := HQ.out; omega
            case rel => exact ⟨i + 1, by have := HQ.out; omega, by go_num, B23.out⟩
          · obtain rfl : i = ts.length := by omega
            clear hs
            go_wp2_with fail
            refine (alive_any _).mono ?_
            rintro e w21 ⟨rfl, b21⟩
            go_wp2
            go_ret
            exact ⟨rfl, HBX.out.trans ((B20.out.trans (b21.mono B20.out.size)).mono HBX.out.size)⟩
end Go.Proofs.Ytjmagpfnikhboaa
