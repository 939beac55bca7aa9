/- The walk of laws.FnBlocking, for whatever code. Condition: the argument is a slice of bytes. -/
import Derived.Test.YtfacohicfcdamaaDrawBlk
import Derived.Test.YtfacohicfcdamaaSecImpl2
namespace Go.Proofs.Ytfacohicfcdamaa
open Go.RowKit Go.Deep

def ugB (ts ss : List T3) (t : Nat) : Nat → Bool
  | 0 => false
  | k + 1 => ugB ts ss t k || (decide (tdl ts k ≤ t) && decide (0 < sln ss k))
theorem ugB_no {ts ss : List T3} {t : Nat} : ∀ {k : Nat}, ugB ts ss t k = false → ∀ i, i < k → tdl ts i ≤ t → sln ss i = 0
  | 0, _, _, h, _ => absurd h (Nat.not_lt_zero _)
  | k + 1, h, i, hi, ht => by
    simp only [ugB, Bool.or_eq_false_iff, Bool.and_eq_false_iff, decide_eq_false_iff_not] at h
    by_cases e : i = k
    · subst e; omega
    · exact ugB_no h.1 i (by omega) ht
theorem bl_calm {ts ss : List T3} {t : Nat} (hv : scB ts ss = true) (h : ugB ts ss t ts.length = false) : bl ts ss t = 0 := by
  by_cases h13 : t < 13
  · exact bl_urgent ts ss (ugB_no h) h13
  · exact bl_13 ts ss (fun i hi => by have := sc_nat hv hi; omega) (by omega)
theorem mxF_12 {f : Nat → Nat} {B : Nat} : ∀ {n : Nat}, (∀ i, i < n → f i ≤ B) → mxF f n ≤ B
  | 0, _ => Nat.zero_le _
  | n + 1, h => by
    simp only [mxF]
    have := mxF_12 (f := f) (B := B) (n := n) fun i hi => h i (by omega)
    have := h n (by omega)
    omega

set_option maxRecDepth 100000 in
set_option maxHeartbeats 8000000 in
/-- laws.FnBlocking. -/
theorem fnBlocking_walk (a : Option Addr) (len cap : Nat) (w : World) (hb : Byts w a len cap) :
    Calls Try.prog 9 #[.slice a len cap] w fun e w' => e = .returned (.bool true) ∧ Below w.heap.size w w' := by
  have hm : cap ≤ maxLen := hb.2.2
  have hlc : len ≤ cap := hb.2.1
  unfold maxLen at hm
  have HB := Lib.hid hb
  clear hb
  by_cases hl : 1048576 < len
  · have hl' : (1048576 : Int) < len := by omega
    go_enter Try.func9, Try.ntmps9
    go_wp2
    go_ret
    exact ⟨rfl, Below.refl _ _⟩
  have hl' : ¬ (1048576 : Int) < len := by omega
  go_enter Try.func9, Try.ntmps9
  go_wp2_with fail
  refine (drawBlocking_any _ _ _ _ HB.out).mono ?_
  rintro e w1 ⟨g, cap1, sg, scap, t, ts, ss, rfl, hn, hlc1, hcm1, hsn, hst, hr1, hos, b1⟩
  have HST := Lib.hid hst
  have R1 := Lib.hid (And.intro hr1 hos)
  have B1 := Lib.hid b1
  clear hr1 hos b1 HB hst hcm1
  go_wp2_with fail
  refine (blocking_any _ _ _ _ t ts ss _ R1.out.1 R1.out.2.row HST.out (by omega) (by omega)).mono ?_
  rintro e w2 ⟨rfl, b2⟩
  have B2 := Lib.hid (B1.out.trans (b2.mono B1.out.size))
  have R2 := Lib.hid (And.intro (R1.out.1.below b2) (R1.out.2.below b2))
  clear b2 R1 B1
  go_wp2_with fail
  refine (specBlocking_any _ _ _ _ t ts ss _ R2.out.1 R2.out.2.row (by omega) (by omega)).mono ?_
  rintro e w3 ⟨rfl, b3⟩
  have B3 := Lib.hid (B2.out.trans (b3.mono B2.out.size))
  have R3 := Lib.hid (And.intro (R2.out.1.below b3) (R2.out.2.below b3))
  clear b3 R2 B2
  obtain ⟨V, hV⟩ : ∃ V, V = blV ts ss t := ⟨_, rfl⟩
  rw [← hV]
  have HVV := Lib.hid hV
  have hvv : (V != V) = false := by simp
  clear hV
  go_wp2_with fail
  refine (specSectionsValid_any _ _ _ _ ts ss _ R3.out.1 R3.out.2.row (by omega) (by omega)).mono ?_
  rintro e w5 ⟨rfl, b5⟩
  have B5 := Lib.hid (B3.out.trans (b5.mono B3.out.size))
  have R5 := Lib.hid (And.intro (R3.out.1.below b5) (R3.out.2.below b5))
  clear b5 R3 B3 hvv
  cases hv : scB ts ss with
  | false =>
    have h0 : V = -1 := by rw [HVV.out, blV_no]; intro h; rw [hv] at h; simp at h
    subst h0
    clear hv
    go_wp2_with fail
    refine (alive_any _).mono ?_
    rintro e w6 ⟨rfl, b6⟩
    go_wp2
    go_ret
    exact ⟨rfl, B5.out.trans (b6.mono B5.out.size)⟩
  | true =>
    have HV := Lib.hid hv
    have hl5 := (sv_all (scB_iff.1 hv).1).2
    have HLEN := Lib.hid (scB_iff.1 hv).2.1
    clear hv
    by_cases ht0 : t < 0
    · have h0 : V = -1 := by rw [HVV.out, blV_no]; intro h; omega
      subst h0
      go_wp2_with fail
      refine (alive_any _).mono ?_
      rintro e w6 ⟨rfl, b6⟩
      go_wp2
      go_ret
      exact ⟨rfl, B5.out.trans (b6.mono B5.out.size)⟩
    · by_cases ht1 : 120 < t
      · have h0 : V = -1 := by rw [HVV.out, blV_no]; intro h; omega
        subst h0
        go_wp2_with fail
        refine (alive_any _).mono ?_
        rintro e w6 ⟨rfl, b6⟩
        go_wp2
        go_ret
        exact ⟨rfl, B5.out.trans (b6.mono B5.out.size)⟩
      · obtain ⟨n, rfl⟩ := Int.eq_ofNat_of_zero_le (show 0 ≤ t by omega)
        have hn120 : n ≤ 120 := by omega
        have h1 : V = (bl ts ss n : Nat) := by rw [HVV.out, blV_yes HV.out hn120]
        have hb8 : bl ts ss n ≤ 8 := blN_le8 HV.out n (Nat.le_refl _)
        have HLO := Lib.hid (bl_longest ts ss n)
        have HLA := Lib.hid (fun h => bl_last ts ss (t := n) h)
        have HUG := Lib.hid (bl_calm (t := n) HV.out)
        obtain ⟨X, hX⟩ : ∃ X, X = bl ts ss n := ⟨_, rfl⟩
        rw [← hX] at h1 hb8 HLO HLA HUG
        subst h1
        clear hX
        go_wp2
        go_loopg [7, 8, 9, 10] ts.length (fun m x y u z wr => ∃ k : Nat, m + k = ts.length ∧ x = .int .i64 (mxF (sln ss) k : Nat) ∧ y = .int .i64 (mxF (tdl ts) k : Nat) ∧ u = .bool (ugB ts ss n k) ∧ z = .int .i64 k ∧ w5 = wr)
        case atStart => exact ⟨0, by omega, rfl, rfl, rfl, rfl, rfl⟩
        case round =>
          obtain ⟨k, hk, rfl, rfl, rfl, rfl, rfl⟩ := hrel
          have HK := Lib.hid hk
          have hkk : k ≤ ts.length := by omega
          have hm1 : mxF (sln ss) k ≤ 12 := mxF_12 fun i hi => by have := sc_nat HV.out (show i < ts.length by omega); omega
          have hm2 : mxF (tdl ts) k ≤ 12 := mxF_12 fun i hi => by have := sc_nat HV.out (show i < ts.length by omega); omega
          clear hk
          by_cases hlt : k < ts.length
          · have hlt3 : k < ss.length := by have := HLEN.out; omega
            obtain ⟨b, off, e1, hbs, -, x1, -⟩ := R5.out.2.row.tk hlt3
            obtain ⟨bt, ot, e2, hbt, -, y1, -⟩ := R5.out.1.tk hlt
            simp only [Option.some.injEq, Addr.mk.injEq, and_true] at e1 e2
            obtain ⟨rfl, rfl⟩ := e1
            obtain ⟨rfl, rfl⟩ := e2
            have hnat := sc_nat HV.out hlt
            rw [hnat.2.1] at x1
            rw [hnat.2.2.2.1] at y1
            simp only [Nat.zero_add] at x1 y1
            have HM1 := Lib.hid (show mxF (sln ss) (k + 1) = max (mxF (sln ss) k) (sln ss k) from rfl)
            have HM2 := Lib.hid (show mxF (tdl ts) (k + 1) = max (mxF (tdl ts) k) (tdl ts k) from rfl)
            have HU := Lib.hid (show ugB ts ss n (k + 1) = (ugB ts ss n k || (decide (tdl ts k ≤ n) && decide (0 < sln ss k))) from rfl)
            have hL12 : sln ss k ≤ 12 := by omega
            have hD12 : tdl ts k ≤ 12 := by omega
            obtain ⟨L, hL⟩ : ∃ L, L = sln ss k := ⟨_, rfl⟩
            obtain ⟨D, hD⟩ : ∃ D, D = tdl ts k := ⟨_, rfl⟩
            obtain ⟨M1, hM1⟩ : ∃ M1, M1 = mxF (sln ss) k := ⟨_, rfl⟩
            obtain ⟨M2, hM2⟩ : ∃ M2, M2 = mxF (tdl ts) k := ⟨_, rfl⟩
            obtain ⟨ub, hub⟩ : ∃ ub, ub = ugB ts ss n k := ⟨_, rfl⟩
            rw [← hL] at x1 hL12 HM1 HU
            rw [← hD] at y1 hD12 HM2 HU
            rw [← hM1] at hm1 HM1 ⊢
            rw [← hM2] at hm2 HM2 ⊢
            rw [← hub] at HU ⊢
            have hk0 : (0 : Int) ≤ k := by omega
            have hk1 : (k : Int) < ts.length := by omega
            have hk2 : (k : Int) < ss.length := by omega
            clear hnat hL hD hM1 hM2 hub
            cases ub with
            | true =>
              go_wp2
              all_goals
                go_roundg (gk - 1)
                case measure => have := HK.out; omega
                case rel => exact ⟨k + 1, by have := HK.out; omega, by rw [HM1.out]; congr 1; omega, by rw [HM2.out]; congr 1; omega, by rw [HU.out]; rfl, by go_num, rfl⟩
            | false =>
              by_cases hd : D ≤ n
              · have hd' : (D : Int) ≤ n := by omega
                by_cases h0 : 0 < L
                · have h0' : (0 : Int) < L := by omega
                  have HU2 := Lib.hid (show ugB ts ss n (k + 1) = true by rw [HU.out, decide_eq_true hd, decide_eq_true h0]; rfl)
                  go_wp2
                  all_goals
                    go_roundg (gk - 1)
                    case measure => have := HK.out; omega
                    case rel => exact ⟨k + 1, by have := HK.out; omega, by rw [HM1.out]; congr 1; omega, by rw [HM2.out]; congr 1; omega, by rw [HU2.out], by go_num, rfl⟩
                · have h0' : ¬ (0 : Int) < L := by omega
                  have HU2 := Lib.hid (show ugB ts ss n (k + 1) = false by rw [HU.out, decide_eq_true hd, decide_eq_false h0]; rfl)
                  go_wp2
                  all_goals
                    go_roundg (gk - 1)
                    case measure => have := HK.out; omega
                    case rel => exact ⟨k + 1, by have := HK.out; omega, by rw [HM1.out]; congr 1; omega, by rw [HM2.out]; congr 1; omega, by rw [HU2.out], by go_num, rfl⟩
              · have hd' : ¬ (D : Int) ≤ n := by omega
                have HU2 := Lib.hid (show ugB ts ss n (k + 1) = false by rw [HU.out, decide_eq_false hd]; rfl)
                go_wp2
                all_goals
                  go_roundg (gk - 1)
                  case measure => have := HK.out; omega
                  case rel => exact ⟨k + 1, by have := HK.out; omega, by rw [HM1.out]; congr 1; omega, by rw [HM2.out]; congr 1; omega, by rw [HU2.out], by go_num, rfl⟩
          · obtain rfl : k = ts.length := by omega
            have g1 := HLO.out
            have g2 := HLA.out
            have g3 := HUG.out
            obtain ⟨M1, hM1⟩ : ∃ M1, M1 = mxF (sln ss) ts.length := ⟨_, rfl⟩
            obtain ⟨M2, hM2⟩ : ∃ M2, M2 = mxF (tdl ts) ts.length := ⟨_, rfl⟩
            obtain ⟨ub, hub⟩ : ∃ ub, ub = ugB ts ss n ts.length := ⟨_, rfl⟩
            rw [← hM1] at hm1 g1 ⊢
            rw [← hM2] at hm2 g2 ⊢
            rw [← hub] at g3 ⊢
            have hX0 : (0 : Int) ≤ X := by omega
            have hX1 : (X : Int) ≤ M1 := by omega
            have CA := Lib.hid (alive_any w5)
            clear hM1 hM2 hub HK HLO HLA HUG HVV
            by_cases hx : X = 0
            · subst hx
              clear g2 g3
              cases ub <;> by_cases hla : n < M2
              all_goals
                have hla' : (n : Int) < M2 ∨ ¬ (n : Int) < M2 := Classical.em _
                rcases hla' with hla' | hla'
                all_goals
                  go_wp2_with fail
                  refine CA.out.mono ?_
                  rintro e w6 ⟨rfl, b6⟩
                  go_wp2
                  go_ret
                  exact ⟨rfl, B5.out.trans (b6.mono B5.out.size)⟩
            · have hla : n < M2 := by
                apply Classical.byContradiction
                intro h
                exact hx (g2 (by omega))
              have hla' : (n : Int) < M2 := by omega
              have hub : ub = true := by
                cases ub with
                | true => rfl
                | false => exact absurd (g3 rfl) hx
              subst hub
              clear g2 g3
              go_wp2_with fail
              refine CA.out.mono ?_
              rintro e w6 ⟨rfl, b6⟩
              go_wp2
              go_ret
              exact ⟨rfl, B5.out.trans (b6.mono B5.out.size)⟩

end Go.Proofs.Ytfacohicfcdamaa
