/- The walk of laws.FnCeilings, for whatever code. Condition: the argument is a slice of bytes. -/
import Derived.Test.YtfacohicfcdamaaDrawSec
import Derived.Test.YtfacohicfcdamaaSecImpl2
import Derived.Test.YtfacohicfcdamaaSame
namespace Go.Proofs.Ytfacohicfcdamaa
open Go.RowKit Go.Deep

def usB (ss : List T3) (r : Nat) : Nat → Bool
  | 0 => false
  | k + 1 => if 0 < sln ss k ∧ srs ss k = r then true else usB ss r k
def fdB (ts ss : List T3) (r : Nat) : Nat → Bool
  | 0 => false
  | k + 1 => if 0 < sln ss k ∧ srs ss k = r then (fdB ts ss r k || decide (tdl ts k = ce ts ss r)) else fdB ts ss r k
theorem usB_iff {ss : List T3} {r : Nat} : ∀ {k : Nat}, usB ss r k = true ↔ ∃ i, i < k ∧ 0 < sln ss i ∧ srs ss i = r
  | 0 => by simp [usB]
  | k + 1 => by
    simp only [usB]
    split
    · rename_i h
      exact ⟨fun _ => ⟨k, by omega, h.1, h.2⟩, fun _ => rfl⟩
    · rename_i h
      rw [usB_iff]
      constructor
      · rintro ⟨i, h1, h2⟩
        exact ⟨i, by omega, h2⟩
      · rintro ⟨i, h1, h2, h3⟩
        refine ⟨i, ?_, h2, h3⟩
        by_cases e : i = k
        · subst e; exact absurd ⟨h2, h3⟩ h
        · omega
theorem fdB_iff {ts ss : List T3} {r : Nat} : ∀ {k : Nat}, fdB ts ss r k = true ↔ ∃ i, i < k ∧ 0 < sln ss i ∧ srs ss i = r ∧ tdl ts i = ce ts ss r
  | 0 => by simp [fdB]
  | k + 1 => by
    simp only [fdB]
    split
    · rename_i h
      rw [Bool.or_eq_true, decide_eq_true_eq, fdB_iff]
      constructor
      · rintro (⟨i, h1, h2⟩ | h2)
        · exact ⟨i, by omega, h2⟩
        · exact ⟨k, by omega, h.1, h.2, h2⟩
      · rintro ⟨i, h1, h2, h3, h4⟩
        by_cases e : i = k
        · subst e; exact .inr h4
        · exact .inl ⟨i, by omega, h2, h3, h4⟩
    · rename_i h
      rw [fdB_iff]
      constructor
      · rintro ⟨i, h1, h2⟩
        exact ⟨i, by omega, h2⟩
      · rintro ⟨i, h1, h2, h3⟩
        refine ⟨i, ?_, h2, h3⟩
        by_cases e : i = k
        · subst e; exact absurd ⟨h2, h3.1⟩ h
        · omega
theorem us_fd {ts ss : List T3} (hv : scB ts ss = true) (r : Nat) : usB ss r ts.length = fdB ts ss r ts.length ∧ (usB ss r ts.length = false → ce ts ss r = 13) := by
  have h1 : usB ss r ts.length = true ↔ fdB ts ss r ts.length = true := by
    rw [usB_iff, fdB_iff]
    constructor
    · rintro ⟨i, h1, h2, h3⟩
      have hle := ceN_le (ts := ts) h2 h3 h1
      have hs := sc_nat hv h1
      rcases ceN_cases ts ss r ts.length with e | ⟨j, j1, j2, j3, e⟩
      · omega
      · exact ⟨j, j1, j2, j3, e.symm⟩
    · rintro ⟨i, h1, h2, h3, _⟩
      exact ⟨i, h1, h2, h3⟩
  refine ⟨?_, fun h => ?_⟩
  · cases e1 : usB ss r ts.length <;> cases e2 : fdB ts ss r ts.length <;> simp_all
  · rcases ceN_cases ts ss r ts.length with e | ⟨j, j1, j2, j3, _⟩
    · exact e
    · rw [usB_iff.2 ⟨j, j1, j2, j3⟩] at h
      exact absurd h (by decide)

set_option maxRecDepth 100000 in
set_option maxHeartbeats 8000000 in
/-- laws.FnCeilings. -/
theorem fnCeilings_walk (a : Option Addr) (len cap : Nat) (w : World) (hb : Byts w a len cap) :
    Calls Try.prog 8 #[.slice a len cap] w fun e w' => e = .returned (.bool true) ∧ Below w.heap.size w w' := by
  have hm : cap ≤ maxLen := hb.2.2
  have hlc : len ≤ cap := hb.2.1
  unfold maxLen at hm
  have HB := Lib.hid hb
  clear hb
  by_cases hl : 1048576 < len
  · have hl' : (1048576 : Int) < len := by omega
    go_enter Try.func8, Try.ntmps8
    go_wp2
    go_ret
    exact ⟨rfl, Below.refl _ _⟩
  have hl' : ¬ (1048576 : Int) < len := by omega
  go_enter Try.func8, Try.ntmps8
  go_wp2_with fail
  refine (drawCeilings_any _ _ _ _ HB.out).mono ?_
  rintro e w1 ⟨g, cap1, sg, scap, ts, ss, rfl, hn, hlc1, hcm1, hsn, hst, hr1, hos, b1⟩
  have HST := Lib.hid hst
  have R1 := Lib.hid (And.intro hr1 hos)
  have B1 := Lib.hid b1
  clear hr1 hos b1 HB hst hcm1
  go_wp2_with fail
  refine (ceilings_any _ _ _ _ ts ss _ R1.out.1 R1.out.2.row HST.out (by omega) (by omega)).mono ?_
  rintro e w2 ⟨⟨v2, rfl, o2⟩, b2⟩
  obtain ⟨la, lcap, rfl⟩ := own_shape o2
  have B2 := Lib.hid (B1.out.trans (b2.mono B1.out.size))
  have R2 := Lib.hid (And.intro (R1.out.1.below b2) (R1.out.2.below b2))
  have O2 := Lib.hid o2.intF'
  clear b2 R1 B1 o2
  obtain ⟨LC, hLC⟩ : ∃ LC, LC = ceL ts ss := ⟨_, rfl⟩
  rw [← hLC]
  rw [← hLC] at O2
  have HLC := Lib.hid hLC
  have hl3 : LC ≤ 3 := by rw [hLC, ceL]; split <;> omega
  clear hLC
  go_wp2_with fail
  refine (specCeilings_any _ _ _ _ ts ss _ R2.out.1 R2.out.2.row (by omega) (by omega)).mono ?_
  rintro e w3 ⟨⟨v3, rfl, o3⟩, b3⟩
  rw [← HLC.out] at o3
  obtain ⟨ma, mcap, rfl⟩ := own_shape o3
  have B3 := Lib.hid (B2.out.trans (b3.mono B2.out.size))
  have R3 := Lib.hid (And.intro (R2.out.1.below b3) (R2.out.2.below b3))
  have O3 := Lib.hid (And.intro (O2.out.below b3) o3.intF')
  clear b3 R2 B2 o3 O2
  go_wp2_with fail
  refine (sameInts_same _ _ _ _ LC _ _ O3.out.1 O3.out.2 (by omega)).mono ?_
  rintro e w4 ⟨rfl, n4, hw4⟩
  have b4 : Below w3.heap.size w3 w4 := by rw [hw4]; exact below_drewN _ _
  have B4 := Lib.hid (B3.out.trans (b4.mono B3.out.size))
  have R4 := Lib.hid (And.intro (R3.out.1.below b4) (R3.out.2.below b4))
  have O4 := Lib.hid (O3.out.1.below b4)
  clear b4 hw4 R3 B3 O3
  go_wp2_with fail
  refine (specSectionsValid_any _ _ _ _ ts ss _ R4.out.1 R4.out.2.row (by omega) (by omega)).mono ?_
  rintro e w5 ⟨rfl, b5⟩
  have B5 := Lib.hid (B4.out.trans (b5.mono B4.out.size))
  have R5 := Lib.hid (And.intro (R4.out.1.below b5) (R4.out.2.below b5))
  have O5 := Lib.hid (O4.out.below b5)
  clear b5 R4 B4 O4
  cases hv : scB ts ss with
  | false =>
    have h0 : LC = 0 := by rw [HLC.out, ceL, if_neg (by rw [hv]; simp)]
    subst h0
    clear hv
    go_wp2_with fail
    refine (alive_any _).mono ?_
    rintro e w6 ⟨rfl, b6⟩
    go_wp2
    go_ret
    exact ⟨rfl, B5.out.trans (b6.mono B5.out.size)⟩
  | true =>
    have h3 : LC = 3 := by rw [HLC.out, ceL, if_pos hv]
    subst h3
    have HV := Lib.hid hv
    have hl5 := (sv_all (scB_iff.1 hv).1).2
    have HLEN := Lib.hid (scB_iff.1 hv).2.1
    clear hv
    go_wp2
    go_loopg [6] 3 (fun m z wr => ∃ r n : Nat, m + r = 3 ∧ z = .int .i64 r ∧ wr = w5.drewN n)
    case atStart => exact ⟨0, 0, rfl, rfl, rfl⟩
    case round =>
      obtain ⟨r, nd, hk, rfl, rfl⟩ := hrel
      have HK := Lib.hid hk
      have hrr : r ≤ 3 := by omega
      obtain ⟨G, hG⟩ : ∃ G, G = gk := ⟨_, rfl⟩
      have HG := Lib.hid hG
      clear hk hG
      by_cases hlt : r < 3
      · have hr0 : (0 : Int) ≤ r := by omega
        have hr1 : (r : Int) < 3 := by omega
        obtain ⟨bl, ol, el, hbl, c0⟩ := O5.out r hlt
        subst el
        simp only at c0
        have hcb := ceN_13 ts ss r ts.length
        obtain ⟨E, hE⟩ : ∃ E, E = ce ts ss r := ⟨_, rfl⟩
        have hE13 : E ≤ 13 := by rw [hE]; exact hcb
        rw [← hE] at c0
        have HE := Lib.hid hE
        clear hE hcb
        go_wp2
        go_loopg [7, 8, 9] ts.length (fun m x y z wr => ∃ k n : Nat, m + k = ts.length ∧ x = .bool (fdB ts ss r k) ∧ y = .bool (usB ss r k) ∧ z = .int .i64 k ∧ wr = w5.drewN n)
        case atStart => exact ⟨0, nd, by omega, rfl, rfl, rfl, rfl⟩
        case round =>
          obtain ⟨k, ne, hk, rfl, rfl, rfl, rfl⟩ := hrel
          have HK2 := Lib.hid hk
          have hkk : k ≤ ts.length := by omega
          clear hk
          by_cases hlt2 : k < ts.length
          · have hlt3 : k < ss.length := by have := HLEN.out; omega
            obtain ⟨b, off, e1, hbs, -, x1, x2⟩ := R5.out.2.row.tk hlt3
            obtain ⟨bt, ot, e2, hbt, -, y1, -⟩ := R5.out.1.tk hlt2
            simp only [Option.some.injEq, Addr.mk.injEq, and_true] at e1 e2
            obtain ⟨rfl, rfl⟩ := e1
            obtain ⟨rfl, rfl⟩ := e2
            have hnat := sc_nat HV.out hlt2
            rw [hnat.2.1] at x1
            rw [hnat.2.2.1] at x2
            rw [hnat.2.2.2.1] at y1
            simp only [Nat.zero_add] at x1 x2 y1
            have hle : 0 < sln ss k → srs ss k = r → E ≤ tdl ts k := fun h1 h2 => by rw [HE.out]; exact ceN_le h1 h2 hlt2
            have HU := Lib.hid (show usB ss r (k + 1) = if 0 < sln ss k ∧ srs ss k = r then true else usB ss r k from rfl)
            have HF := Lib.hid (show fdB ts ss r (k + 1) = if 0 < sln ss k ∧ srs ss k = r then (fdB ts ss r k || decide (tdl ts k = ce ts ss r)) else fdB ts ss r k from rfl)
            rw [← HE.out] at HF
            obtain ⟨L, hL⟩ : ∃ L, L = sln ss k := ⟨_, rfl⟩
            obtain ⟨S, hS⟩ : ∃ S, S = srs ss k := ⟨_, rfl⟩
            obtain ⟨D, hD⟩ : ∃ D, D = tdl ts k := ⟨_, rfl⟩
            obtain ⟨fb, hfb⟩ : ∃ fb, fb = fdB ts ss r k := ⟨_, rfl⟩
            obtain ⟨ub, hub⟩ : ∃ ub, ub = usB ss r k := ⟨_, rfl⟩
            rw [← hL] at x1 hle HU HF
            rw [← hS] at x2 hle HU HF
            rw [← hD] at y1 hle HF
            rw [← hfb] at HF ⊢
            rw [← hub] at HU ⊢
            have hk0 : (0 : Int) ≤ k := by omega
            have hk1 : (k : Int) < ts.length := by omega
            have hk2 : (k : Int) < ss.length := by omega
            clear hnat hL hS hD hfb hub
            by_cases h1 : 0 < L ∧ S = r
            · obtain ⟨h1a, h1b⟩ := h1
              have hDE := hle h1a h1b
              have hl' : (0 : Int) < L := by omega
              have he1 : (S == r) = true := beq_iff_eq.2 h1b
              have he2 : ((S : Int) == (r : Int)) = true := beq_iff_eq.2 (by omega)
              have HU1 := Lib.hid (show usB ss r (k + 1) = true by rw [HU.out, if_pos ⟨h1a, h1b⟩])
              have HF1 := Lib.hid (show fdB ts ss r (k + 1) = (fb || decide (D = E)) by rw [HF.out, if_pos ⟨h1a, h1b⟩])
              have hlt4 : decide (D < E) = false := decide_eq_false (by omega)
              clear hle h1b HU HF
              cases fb with
              | true =>
                go_wp2
                go_quiet (fail)
                go_wp2
                go_quiet (fail)
                go_wp2
                go_roundg (gk - 1)
                case measure => have := HK2.out; omega
                case rel => exact ⟨k + 1, _, by have := HK2.out; omega, by rw [HF1.out]; rfl, by rw [HU1.out], by go_num, rfl⟩
              | false =>
                by_cases hde : D = E
                · have hq1 : (D == E) = true := beq_iff_eq.2 hde
                  have hq2 : ((D : Int) == (E : Int)) = true := beq_iff_eq.2 (by omega)
                  have HF2 := Lib.hid (show fdB ts ss r (k + 1) = true by rw [HF1.out, hde]; simp)
                  clear hde
                  go_wp2
                  go_quiet (fail)
                  go_wp2
                  go_quiet (fail)
                  go_wp2
                  go_roundg (gk - 1)
                  case measure => have := HK2.out; omega
                  case rel => exact ⟨k + 1, _, by have := HK2.out; omega, by rw [HF2.out], by rw [HU1.out], by go_num, rfl⟩
                · have hq1 : (D == E) = false := beq_eq_false_iff_ne.2 hde
                  have hq2 : ((D : Int) == (E : Int)) = false := beq_eq_false_iff_ne.2 (by omega)
                  have HF2 := Lib.hid (show fdB ts ss r (k + 1) = false by rw [HF1.out, decide_eq_false hde]; rfl)
                  clear hde
                  go_wp2
                  go_quiet (fail)
                  go_wp2
                  go_quiet (fail)
                  go_wp2
                  go_roundg (gk - 1)
                  case measure => have := HK2.out; omega
                  case rel => exact ⟨k + 1, _, by have := HK2.out; omega, by rw [HF2.out], by rw [HU1.out], by go_num, rfl⟩
            · have HU1 := Lib.hid (show usB ss r (k + 1) = ub by rw [HU.out, if_neg h1])
              have HF1 := Lib.hid (show fdB ts ss r (k + 1) = fb by rw [HF.out, if_neg h1])
              clear HU HF hle
              by_cases h0 : 0 < L
              · have hl' : (0 : Int) < L := by omega
                have hne : S ≠ r := fun h => h1 ⟨h0, h⟩
                have he1 : (S == r) = false := beq_eq_false_iff_ne.2 hne
                have he2 : ((S : Int) == (r : Int)) = false := beq_eq_false_iff_ne.2 (by omega)
                clear h1 hne
                go_wp2
                go_roundg (gk - 1)
                case measure => have := HK2.out; omega
                case rel => exact ⟨k + 1, _, by have := HK2.out; omega, by rw [HF1.out], by rw [HU1.out], by go_num, rfl⟩
              · have hl' : ¬ (0 : Int) < L := by omega
                clear h1
                go_wp2
                go_roundg (gk - 1)
                case measure => have := HK2.out; omega
                case rel => exact ⟨k + 1, _, by have := HK2.out; omega, by rw [HF1.out], by rw [HU1.out], by go_num, rfl⟩
          · obtain rfl : k = ts.length := by omega
            obtain ⟨h1, h2⟩ := us_fd HV.out r
            rw [← h1]
            rw [← HE.out] at h2
            obtain ⟨ub, hub⟩ : ∃ ub, ub = usB ss r ts.length := ⟨_, rfl⟩
            rw [← hub] at h2 ⊢
            clear h1 hub HK2
            cases ub with
            | true =>
              clear h2
              go_wp2
              go_roundg (G - 1)
              case measure => have := HK.out; have := HG.out; omega
              case rel => exact ⟨r + 1, _, by have := HK.out; have := HG.out; omega, by go_num, rfl⟩
            | false =>
              obtain rfl := h2 rfl
              clear h2
              go_wp2
              go_roundg (G - 1)
              case measure => have := HK.out; have := HG.out; omega
              case rel => exact ⟨r + 1, _, by have := HK.out; have := HG.out; omega, by go_num, rfl⟩
      · obtain rfl : r = 3 := by omega
        go_wp2_with fail
        refine (alive_any _).mono ?_
        rintro e w6 ⟨rfl, b6⟩
        go_wp2
        go_ret
        exact ⟨rfl, (below_drewN' B5.out nd).trans (b6.mono (below_drewN' B5.out nd).size)⟩

end Go.Proofs.Ytfacohicfcdamaa
