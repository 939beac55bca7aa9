/- Contracts of spec.SectionsValid, spec.l6Ceiling, spec.Ceilings, spec.l6Block, spec.Blocking, spec.ResourcesFeasible. Conditions: the slices hold what is said, at most 2^40 entries. -/
import Derived.Test.YtfacohicfcdamaaOwn3
import Derived.Test.YtfacohicfcdamaaDemSpec
import Derived.BigQuiet
namespace Go.Proofs.Ytfacohicfcdamaa
open Go.RowKit Go.Deep

set_option maxRecDepth 100000 in
set_option maxHeartbeats 4000000 in
/-- spec.SectionsValid. -/
theorem specSectionsValid_any (a sa : Option Addr) (cap scap : Nat) (ts ss : List T3) (w : World) (hr : Row w a ts) (hs : Row w sa ss) (hn : ts.length ≤ 1099511627776) (_hsn : ss.length ≤ 1099511627776) :
    Calls Try.prog 13 #[.slice a ts.length cap, .slice sa ss.length scap] w fun e w' => e = .returned (.bool (scB ts ss)) ∧ Below w.heap.size w w' := by
  have HR := Lib.hid hr
  have HS := Lib.hid hs
  clear hr hs
  cases hv : svB ts with
  | false =>
    go_enter Try.func13, Try.ntmps13
    go_wp2_with fail
    refine (specSetValid_any _ _ _ _ HR.out hn).mono ?_
    rintro e w1 ⟨rfl, b1⟩
    rw [hv]
    have HY := Lib.hid (sc_no1 (ss := ss) hv)
    clear hv
    go_wp2
    go_ret
    exact ⟨ret_bool HY.out.symm, b1⟩
  | true =>
  have HV := Lib.hid hv
  clear hv
  by_cases hl : ss.length = ts.length
  · have hlb : ((ss.length : Int) != (ts.length : Int)) = false := by simp; omega
    have hlb2 : (ss.length != ts.length) = false := by simp; omega
    have HL := Lib.hid hl
    clear hl
    go_enter Try.func13, Try.ntmps13
    go_wp2_with fail
    refine (specSetValid_any _ _ _ _ HR.out hn).mono ?_
    rintro e w1 ⟨rfl, b1⟩
    rw [HV.out]
    have R1 := Lib.hid (HR.out.below b1)
    have S1 := Lib.hid (HS.out.below b1)
    have B1 := Lib.hid b1
    have CI := Lib.hid l1In_any
    clear b1 HR HS
    go_wp2
    clear hlb hlb2
    go_loopg [5] ss.length (fun m i wr => ∃ k : Nat, m + k = ss.length ∧ i = .int .i64 k ∧ (∀ j, j < k → sc1 (tk ts j) (tk ss j) = true) ∧ Below w1.heap.size w1 wr)
    case atStart => exact ⟨0, rfl, rfl, fun j hj => absurd hj (Nat.not_lt_zero _), Below.refl _ _⟩
    case round =>
      obtain ⟨k, hk, rfl, hall, B⟩ := hrel
      have HK := Lib.hid hk
      have HA := Lib.hid hall
      have hkk : k ≤ ss.length := by omega
      clear hk hall
      by_cases hlt : k < ss.length
      · have hlt2 : k < ts.length := by have := HL.out; omega
        obtain ⟨b, off, rfl, hbs, x0, x1, x2⟩ := (S1.out.below B).tk hlt
        obtain ⟨bt, ot, rfl, hbt, y0, -, -⟩ := (R1.out.below B).tk hlt2
        have htv := (tvB_iff _ _ _).1 (tk_sv HV.out hlt2)
        obtain ⟨⟨p, q, r⟩, hQ⟩ : ∃ s, s = tk ss k := ⟨_, rfl⟩
        obtain ⟨C, hC⟩ : ∃ C, C = (tk ts k).1 := ⟨_, rfl⟩
        rw [← hQ] at x0 x1 x2
        rw [← hC] at y0 htv
        simp only at x0 x1 x2
        have hc1 : 1 ≤ C := htv.1
        have hc8 : C ≤ 8 := htv.2.1
        have HQ := Lib.hid hQ
        have HC := Lib.hid hC
        have hk0 : (0 : Int) ≤ k := by omega
        have hk1 : (k : Int) < ss.length := by omega
        have hk2 : (k : Int) < ts.length := by omega
        have hn1 : ¬ bt = wr.heap.size := by omega
        have hn2 : ¬ wr.heap.size = bt := by omega
        clear hQ hC htv
        by_cases hq : q = 0
        · subst hq
          by_cases hp : p = 0
          · subst hp
            by_cases hr : r = 0
            · subst hr
              have C1 : inB 0 0 C = true := decide_eq_true (by omega)
              have C3 : inB 0 0 2 = true := decide_eq_true (by omega)
              have HY := Lib.hid (show sc1 (tk ts k) (tk ss k) = true by rw [← HQ.out]; rw [sc1_iff, ← HC.out]; exact ⟨fun _ => ⟨rfl, rfl⟩, by simp only; omega⟩)
              go_wp2
              go_quiet ((go_at_call 38; exact quiet_left (CI.out _ _ _ _)))
              go_wp2
              go_roundg (gk - 1)
              case measure => have := HK.out; omega
              case rel => exact ⟨k + 1, by have := HK.out; omega, by go_num, fun j hj => by
                by_cases e : j = k
                · subst e; exact HY.out
                · exact HA.out j (by omega), below_drewN' (B.alloc B.size _) _⟩
            · have hr0 : (r != 0) = true := bne_iff_ne.2 hr
              have HY := Lib.hid (sc_no3 (ts := ts) hlt (show sc1 (tk ts k) (tk ss k) = false by rw [← HQ.out]; exact decide_eq_false (by rw [← HC.out]; rintro ⟨h, _⟩; exact hr (h rfl).2)))
              clear hr
              go_wp2
              go_quiet ((go_at_call 38; exact quiet_left (CI.out _ _ _ _)))
              go_wp2
              go_ret
              exact ⟨ret_bool HY.out.symm, B1.out.trans ((below_drewN' (B.alloc B.size _) _).mono B1.out.size)⟩
          · have hp0 : (p != 0) = true := bne_iff_ne.2 hp
            have HY := Lib.hid (sc_no3 (ts := ts) hlt (show sc1 (tk ts k) (tk ss k) = false by rw [← HQ.out]; exact decide_eq_false (by rw [← HC.out]; rintro ⟨h, _⟩; exact hp (h rfl).1)))
            clear hp
            go_wp2
            go_quiet ((go_at_call 38; exact quiet_left (CI.out _ _ _ _)))
            go_wp2
            go_ret
            exact ⟨ret_bool HY.out.symm, B1.out.trans ((below_drewN' (B.alloc B.size _) _).mono B1.out.size)⟩
        · have hq0 : (q == 0) = false := beq_eq_false_iff_ne.2 hq
          by_cases h1 : 0 ≤ q ∧ q ≤ C
          · have C1 : inB q 0 C = true := decide_eq_true h1
            have hw : IntKind.i64.wrap (C - q) = C - q := IntWalk.i64_in _ (by omega)
            by_cases h2 : 0 ≤ p ∧ p ≤ C - q
            · have C2 : inB p 0 (C - q) = true := decide_eq_true h2
              by_cases h3 : 0 ≤ r ∧ r ≤ 2
              · have C3 : inB r 0 2 = true := decide_eq_true h3
                have HY := Lib.hid (show sc1 (tk ts k) (tk ss k) = true by rw [← HQ.out]; rw [sc1_iff, ← HC.out]; exact ⟨fun h => absurd h hq, h1.1, h1.2, h2.1, h2.2, h3.1, h3.2⟩)
                clear h1 h2 h3 hq
                go_wp2
                go_quiet ((go_at_call 38; exact quiet_left (CI.out _ _ _ _)))
                go_wp2
                go_roundg (gk - 1)
                case measure => have := HK.out; omega
                case rel => exact ⟨k + 1, by have := HK.out; omega, by go_num, fun j hj => by
                  by_cases e : j = k
                  · subst e; exact HY.out
                  · exact HA.out j (by omega), below_drewN' (B.alloc B.size _) _⟩
              · have C3 : inB r 0 2 = false := decide_eq_false h3
                have HY := Lib.hid (sc_no3 (ts := ts) hlt (show sc1 (tk ts k) (tk ss k) = false by rw [← HQ.out]; exact decide_eq_false (by rw [← HC.out]; rintro ⟨_, _, _, _, _, h⟩; exact h3 h)))
                clear h1 h2 h3 hq
                go_wp2
                go_quiet ((go_at_call 38; exact quiet_left (CI.out _ _ _ _)))
                go_wp2
                go_ret
                exact ⟨ret_bool HY.out.symm, B1.out.trans ((below_drewN' (B.alloc B.size _) _).mono B1.out.size)⟩
            · have C2 : inB p 0 (C - q) = false := decide_eq_false h2
              have HY := Lib.hid (sc_no3 (ts := ts) hlt (show sc1 (tk ts k) (tk ss k) = false by rw [← HQ.out]; exact decide_eq_false (by rw [← HC.out]; rintro ⟨_, _, _, a, b, _⟩; exact h2 ⟨a, b⟩)))
              clear h1 h2 hq
              go_wp2
              go_quiet ((go_at_call 38; exact quiet_left (CI.out _ _ _ _)))
              go_wp2
              go_ret
              exact ⟨ret_bool HY.out.symm, B1.out.trans ((below_drewN' (B.alloc B.size _) _).mono B1.out.size)⟩
          · have C1 : inB q 0 C = false := decide_eq_false h1
            have HY := Lib.hid (sc_no3 (ts := ts) hlt (show sc1 (tk ts k) (tk ss k) = false by rw [← HQ.out]; exact decide_eq_false (by rw [← HC.out]; rintro ⟨_, a, b, _⟩; exact h1 ⟨a, b⟩)))
            clear h1 hq
            go_wp2
            go_quiet ((go_at_call 38; exact quiet_left (CI.out _ _ _ _)))
            go_wp2
            go_ret
            exact ⟨ret_bool HY.out.symm, B1.out.trans ((below_drewN' (B.alloc B.size _) _).mono B1.out.size)⟩
      · obtain rfl : k = ss.length := by omega
        have HY := Lib.hid (scB_iff.2 ⟨HV.out, HL.out, HA.out⟩)
        have hlt2 : ¬ (ss.length : Int) < ss.length := by omega
        go_wp2
        go_ret
        exact ⟨ret_bool HY.out.symm, B1.out.trans (B.mono B1.out.size)⟩
  · have hlb : ((ss.length : Int) != (ts.length : Int)) = true := by simp; omega
    have hlb2 : (ss.length != ts.length) = true := by simp; omega
    have HY := Lib.hid (sc_no2 (ts := ts) hl)
    clear hl
    go_enter Try.func13, Try.ntmps13
    go_wp2_with fail
    refine (specSetValid_any _ _ _ _ HR.out hn).mono ?_
    rintro e w1 ⟨rfl, b1⟩
    rw [HV.out]
    go_wp2
    go_ret
    exact ⟨ret_bool HY.out.symm, b1⟩

/-- spec.l6Ceiling. -/
theorem l6Ceiling_any (a sa : Option Addr) (cap scap r : Nat) (ts ss : List T3) (w : World) (hr : Row w a ts) (hs : Row w sa ss) (hv : scB ts ss = true) :
    Calls Try.prog 45 #[.slice a ts.length cap, .slice sa ss.length scap, .int .i64 (r : Int)] w fun e w' => e = .returned (.int .i64 (ce ts ss r : Nat)) ∧ w = w' := by
  have HR := Lib.hid hr
  have HS := Lib.hid hs
  have HV := Lib.hid hv
  have h5 := (sv_all (scB_iff.1 hv).1).2
  have HL := Lib.hid (scB_iff.1 hv).2.1
  clear hr hs hv
  go_enter Try.func45, Try.ntmps45
  go_wp2
  go_loopg [7, 8] ts.length (fun m c i wr => ∃ k : Nat, m + k = ts.length ∧ i = .int .i64 k ∧ c = .int .i64 (ceN ts ss r k : Nat) ∧ w = wr)
  case atStart => exact ⟨0, rfl, rfl, rfl, rfl⟩
  case round =>
    obtain ⟨k, hk, rfl, rfl, rfl⟩ := hrel
    have HK := Lib.hid hk
    have hkk : k ≤ ts.length := by omega
    clear hk
    have h13 := ceN_13 ts ss r k
    by_cases hlt : k < ts.length
    · have hlt2 : k < ss.length := by have := HL.out; omega
      obtain ⟨b, off, rfl, hbs, -, x1, x2⟩ := HS.out.tk hlt2
      obtain ⟨bt, ot, rfl, hbt, -, y1, -⟩ := HR.out.tk hlt
      have hnat := sc_nat HV.out hlt
      rw [hnat.2.1] at x1
      rw [hnat.2.2.1] at x2
      rw [hnat.2.2.2.1] at y1
      have hd12 : tdl ts k ≤ 12 := by omega
      obtain ⟨X, hX⟩ : ∃ X, X = ceN ts ss r k := ⟨_, rfl⟩
      obtain ⟨L, hL⟩ : ∃ L, L = sln ss k := ⟨_, rfl⟩
      obtain ⟨S, hS⟩ : ∃ S, S = srs ss k := ⟨_, rfl⟩
      obtain ⟨D, hD⟩ : ∃ D, D = tdl ts k := ⟨_, rfl⟩
      have hstep : ceN ts ss r (k + 1) = if 0 < L ∧ S = r then min X D else X := by rw [hX, hL, hS, hD]; rfl
      rw [← hX] at h13
      rw [← hX]
      rw [← hL] at x1
      rw [← hS] at x2
      rw [← hD] at y1 hd12
      have HST := Lib.hid hstep
      have hL12 : L ≤ 12 := by rw [hL]; omega
      have hS12 : S ≤ 12 := by rw [hS]; omega
      clear hnat hX hL hS hD hstep
      have hk0 : (0 : Int) ≤ k := by omega
      have hk1 : (k : Int) < ts.length := by omega
      have hk2 : (k : Int) < ss.length := by omega
      by_cases hl : 0 < L
      · have hl' : (0 : Int) < L := by omega
        by_cases he : S = r
        · have heb : (S == r) = true := beq_iff_eq.2 he
          have heb2 : ((S : Int) == (r : Int)) = true := beq_iff_eq.2 (by omega)
          have HN := Lib.hid (show ceN ts ss r (k + 1) = min X D by rw [HST.out, if_pos ⟨hl, he⟩])
          clear he
          by_cases hm : D < X
          · have hm' : (D : Int) < X := by omega
            have HN2 := Lib.hid (show ceN ts ss r (k + 1) = D by rw [HN.out]; omega)
            go_wp2
            go_roundg (gk - 1)
            case measure => have := HK.out; omega
            case rel => exact ⟨k + 1, by have := HK.out; omega, by go_num, by rw [HN2.out], rfl⟩
          · have hm' : ¬ (D : Int) < X := by omega
            have HN2 := Lib.hid (show ceN ts ss r (k + 1) = X by rw [HN.out]; omega)
            go_wp2
            go_roundg (gk - 1)
            case measure => have := HK.out; omega
            case rel => exact ⟨k + 1, by have := HK.out; omega, by go_num, by rw [HN2.out], rfl⟩
        · have heb : (S == r) = false := beq_eq_false_iff_ne.2 he
          have heb2 : ((S : Int) == (r : Int)) = false := beq_eq_false_iff_ne.2 (by omega)
          have HN := Lib.hid (show ceN ts ss r (k + 1) = X by rw [HST.out, if_neg (fun h => he h.2)])
          clear he
          go_wp2
          go_roundg (gk - 1)
          case measure => have := HK.out; omega
          case rel => exact ⟨k + 1, by have := HK.out; omega, by go_num, by rw [HN.out], rfl⟩
      · have hl' : ¬ (0 : Int) < L := by omega
        have HN := Lib.hid (show ceN ts ss r (k + 1) = X by rw [HST.out, if_neg (fun h => hl h.1)])
        go_wp2
        go_roundg (gk - 1)
        case measure => have := HK.out; omega
        case rel => exact ⟨k + 1, by have := HK.out; omega, by go_num, by rw [HN.out], rfl⟩
    · obtain rfl : k = ts.length := by omega
      go_wp2
      go_ret
      exact ⟨rfl, rfl⟩

/-- spec.l6Block. -/
theorem l6Block_any (a sa : Option Addr) (cap scap t : Nat) (ts ss : List T3) (w : World) (hr : Row w a ts) (hs : Row w sa ss) (hv : scB ts ss = true) :
    Calls Try.prog 47 #[.slice a ts.length cap, .slice sa ss.length scap, .int .i64 (t : Int)] w fun e w' => e = .returned (.int .i64 (bl ts ss t : Nat)) ∧ w = w' := by
  have HR := Lib.hid hr
  have HS := Lib.hid hs
  have HV := Lib.hid hv
  have h5 := (sv_all (scB_iff.1 hv).1).2
  have HL := Lib.hid (scB_iff.1 hv).2.1
  have HCE := Lib.hid (fun r : Nat => l6Ceiling_any a sa cap scap r ts ss w hr hs hv)
  clear hr hs hv
  go_enter Try.func47, Try.ntmps47
  go_wp2
  go_loopg [7, 8] ts.length (fun m c i wr => ∃ k : Nat, m + k = ts.length ∧ i = .int .i64 k ∧ c = .int .i64 (blN ts ss t k : Nat) ∧ w = wr)
  case atStart => exact ⟨0, rfl, rfl, rfl, rfl⟩
  case round =>
    obtain ⟨k, hk, rfl, rfl, rfl⟩ := hrel
    have HK := Lib.hid hk
    have hkk : k ≤ ts.length := by omega
    clear hk
    have h8 := blN_le8 HV.out t hkk
    by_cases hlt : k < ts.length
    · have hlt2 : k < ss.length := by have := HL.out; omega
      obtain ⟨b, off, rfl, hbs, -, x1, x2⟩ := HS.out.tk hlt2
      obtain ⟨bt, ot, rfl, hbt, -, y1, -⟩ := HR.out.tk hlt
      have hnat := sc_nat HV.out hlt
      rw [hnat.2.1] at x1
      rw [hnat.2.2.1] at x2
      rw [hnat.2.2.2.1] at y1
      have hd12 : tdl ts k ≤ 12 := by omega
      have C13 := ceN_13 ts ss (srs ss k) ts.length
      have HC := Lib.hid (HCE.out (srs ss k))
      obtain ⟨X, hX⟩ : ∃ X, X = blN ts ss t k := ⟨_, rfl⟩
      obtain ⟨L, hL⟩ : ∃ L, L = sln ss k := ⟨_, rfl⟩
      obtain ⟨S, hS⟩ : ∃ S, S = srs ss k := ⟨_, rfl⟩
      obtain ⟨D, hD⟩ : ∃ D, D = tdl ts k := ⟨_, rfl⟩
      obtain ⟨E, hE⟩ : ∃ E, E = ce ts ss (srs ss k) := ⟨_, rfl⟩
      have hE13 : E ≤ 13 := by rw [hE]; exact C13
      have hstep : blN ts ss t (k + 1) = if t < D ∧ 0 < L ∧ E ≤ t then max X L else X := by rw [hX, hL, hD, hE]; rfl
      rw [← hE] at HC
      rw [← hX] at h8
      rw [← hX]
      rw [← hL] at x1
      rw [← hS] at x2 HC
      rw [← hD] at y1 hd12
      have HST := Lib.hid hstep
      have hL12 : L ≤ 12 := by rw [hL]; omega
      have hS12 : S ≤ 12 := by rw [hS]; omega
      clear hnat hX hL hS hD hE hstep C13
      have hk0 : (0 : Int) ≤ k := by omega
      have hk1 : (k : Int) < ts.length := by omega
      have hk2 : (k : Int) < ss.length := by omega
      by_cases h1 : t < D
      · have h1' : (t : Int) < D := by omega
        by_cases hl : 0 < L
        · have hl' : (0 : Int) < L := by omega
          by_cases he : E ≤ t
          · have he' : (E : Int) ≤ t := by omega
            have HN := Lib.hid (show blN ts ss t (k + 1) = max X L by rw [HST.out, if_pos ⟨h1, hl, he⟩])
            go_wp2_with fail
            refine HC.out.mono ?_
            rintro e w1 ⟨rfl, rfl⟩
            by_cases hm : X < L
            · have hm' : (X : Int) < L := by omega
              have HN2 := Lib.hid (show blN ts ss t (k + 1) = L by rw [HN.out]; omega)
              go_wp2
              go_roundg (gk - 1)
              case measure => have := HK.out; omega
              case rel => exact ⟨k + 1, by have := HK.out; omega, by go_num, by rw [HN2.out], rfl⟩
            · have hm' : ¬ (X : Int) < L := by omega
              have HN2 := Lib.hid (show blN ts ss t (k + 1) = X by rw [HN.out]; omega)
              go_wp2
              go_roundg (gk - 1)
              case measure => have := HK.out; omega
              case rel => exact ⟨k + 1, by have := HK.out; omega, by go_num, by rw [HN2.out], rfl⟩
          · have he' : ¬ (E : Int) ≤ t := by omega
            have HN := Lib.hid (show blN ts ss t (k + 1) = X by rw [HST.out, if_neg (fun h => he h.2.2)])
            go_wp2_with fail
            refine HC.out.mono ?_
            rintro e w1 ⟨rfl, rfl⟩
            go_wp2
            go_roundg (gk - 1)
            case measure => have := HK.out; omega
            case rel => exact ⟨k + 1, by have := HK.out; omega, by go_num, by rw [HN.out], rfl⟩
        · have hl' : ¬ (0 : Int) < L := by omega
          have HN := Lib.hid (show blN ts ss t (k + 1) = X by rw [HST.out, if_neg (fun h => hl h.2.1)])
          go_wp2
          go_roundg (gk - 1)
          case measure => have := HK.out; omega
          case rel => exact ⟨k + 1, by have := HK.out; omega, by go_num, by rw [HN.out], rfl⟩
      · have h1' : ¬ (t : Int) < D := by omega
        have HN := Lib.hid (show blN ts ss t (k + 1) = X by rw [HST.out, if_neg (fun h => h1 h.1)])
        go_wp2
        go_roundg (gk - 1)
        case measure => have := HK.out; omega
        case rel => exact ⟨k + 1, by have := HK.out; omega, by go_num, by rw [HN.out], rfl⟩
    · obtain rfl : k = ts.length := by omega
      go_wp2
      go_ret
      exact ⟨rfl, rfl⟩

/-- What Ceilings gives. -/
def ceL (ts ss : List T3) : Nat := if scB ts ss = true then 3 else 0
def CeGot (base : Nat) (ts ss : List T3) (e : Ending) (w' : World) : Prop := ∃ v, e = .returned v ∧ OwnI w' base v (ceL ts ss) (fun r => (ce ts ss r : Nat))

/-- spec.Ceilings. -/
theorem specCeilings_any (a sa : Option Addr) (cap scap : Nat) (ts ss : List T3) (w : World) (hr : Row w a ts) (hs : Row w sa ss) (hn : ts.length ≤ 1099511627776) (hsn : ss.length ≤ 1099511627776) :
    Calls Try.prog 19 #[.slice a ts.length cap, .slice sa ss.length scap] w fun e w' => CeGot w.heap.size ts ss e w' ∧ Below w.heap.size w w' := by
  obtain ⟨iI, hi, hz, hsz, hby⟩ := info_parts intInfo
  have HI := Lib.hid (And.intro hi (And.intro hz (And.intro hsz hby)))
  clear hi hz hsz hby
  have BA := Lib.hid (below_box w (.cells #[] 3))
  have R0 := Lib.hid hr
  have S0 := Lib.hid hs
  have HR := Lib.hid (hr.below BA.out)
  have HS := Lib.hid (hs.below BA.out)
  have O0 := Lib.hid (OwnI.empty w (fun r => (ce ts ss r : Nat)))
  clear hr hs
  cases hv : scB ts ss with
  | false =>
    go_enter Try.func19, Try.ntmps19
    go_wp2_with fail
    refine (specSectionsValid_any _ _ _ _ _ _ _ HR.out HS.out hn hsn).mono ?_
    rintro e w1 ⟨rfl, b1⟩
    rw [hv]
    have HY := Lib.hid (show ceL ts ss = 0 by rw [ceL, if_neg (by rw [hv]; simp)])
    clear hv
    go_wp2
    go_ret
    exact ⟨⟨_, rfl, by rw [HY.out]; exact O0.out.below b1⟩, BA.out.trans (b1.mono BA.out.size)⟩
  | true =>
  have HV := Lib.hid hv
  have HY := Lib.hid (show ceL ts ss = 3 by rw [ceL, if_pos hv])
  clear hv
  go_enter Try.func19, Try.ntmps19
  go_wp2_with fail
  refine (specSectionsValid_any _ _ _ _ _ _ _ HR.out HS.out hn hsn).mono ?_
  rintro e w1 ⟨rfl, b1⟩
  rw [HV.out]
  have B1 := Lib.hid (BA.out.trans (b1.mono BA.out.size))
  have O1 := Lib.hid (O0.out.below b1)
  clear b1 BA HR HS O0
  go_wp2
  go_loopg [5, 6] 3 (fun m s i wr => ∃ k : Nat, m + k = 3 ∧ i = .int .i64 k ∧ OwnI wr w.heap.size s k (fun r => (ce ts ss r : Nat)) ∧ Below w.heap.size w wr)
  case atStart => exact ⟨0, rfl, rfl, O1.out, B1.out⟩
  case round =>
    obtain ⟨k, hk, rfl, ho, B⟩ := hrel
    have HK := Lib.hid hk
    have hkk : k ≤ 3 := by omega
    have HO := Lib.hid ho
    have HB := Lib.hid B
    have HR := Lib.hid (R0.out.below B)
    have HS := Lib.hid (S0.out.below B)
    obtain ⟨va, vc, rfl⟩ := own_shape ho
    clear hk ho B
    by_cases hlt : k < 3
    · have hlt' : (k : Int) < 3 := by omega
      go_wp2_with fail
      refine (l6Ceiling_any _ _ _ _ k _ _ _ HR.out HS.out HV.out).mono ?_
      rintro e w2 ⟨rfl, rfl⟩
      obtain ⟨X, hX⟩ : ∃ X, X = ce ts ss k := ⟨_, rfl⟩
      rw [← hX]
      have HX := Lib.hid hX
      clear hX
      go_wp2_with (at_builtin; refine wpList_append_own _ rfl (.tmp 17) (.tmp 22) 34 rfl w.heap.size 3 iI _ 1 8 Try.underlying34 HI.out.1 HI.out.2.1 HI.out.2.2.1 HI.out.2.2.2 rfl (by decide) _ k (vals (fun r => (ce ts ss r : Nat)) k) rfl (World.ownsRow.alloc HO.out _) ⟨wr.heap.size, 0, none⟩ 1 1 [.int .i64 (X : Int)] rfl rfl (news1 _ _ _) (one1 _) (by unfold maxLen; omega) (by omega) (Nat.le_trans HB.out.size (below_box _ _).size) ?_; intro v' w' hown' hgrow hnil)
      have HO1 := Lib.hid (show OwnI w' w.heap.size v' (k + 1) (fun r => (ce ts ss r : Nat)) by unfold OwnI; rw [vals_succ]; rw [← HX.out]; exact hown')
      have B2 : Below w.heap.size w w' := (HB.out.trans ((below_box wr _).mono HB.out.size)).grown hgrow (Nat.le_trans HB.out.size (below_box _ _).size) (fun k hk => HO.out.from k hk)
      clear hown' hgrow hnil
      go_roundg (gk - 1)
      case measure => have := HK.out; omega
      case rel => exact ⟨k + 1, by have := HK.out; omega, by go_num, HO1.out, B2⟩
    · obtain rfl : k = 3 := by omega
      go_wp2
      go_ret
      exact ⟨⟨_, rfl, by rw [HY.out]; exact HO.out⟩, HB.out⟩

/-- What Blocking gives. -/
def blV (ts ss : List T3) (t : Int) : Int := if scB ts ss = true ∧ 0 ≤ t ∧ t ≤ 120 then (bl ts ss t.toNat : Nat) else -1
theorem blV_no {ts ss : List T3} {t : Int} (h : ¬ (scB ts ss = true ∧ 0 ≤ t ∧ t ≤ 120)) : blV ts ss t = -1 := if_neg h
theorem blV_yes {ts ss : List T3} {t : Nat} (h : scB ts ss = true) (ht : t ≤ 120) : blV ts ss t = (bl ts ss t : Nat) := by
  rw [blV, if_pos ⟨h, by omega, by omega⟩]
  rfl

/-- spec.Blocking. -/
theorem specBlocking_any (a sa : Option Addr) (cap scap : Nat) (t : Int) (ts ss : List T3) (w : World) (hr : Row w a ts) (hs : Row w sa ss) (hn : ts.length ≤ 1099511627776) (hsn : ss.length ≤ 1099511627776) :
    Calls Try.prog 26 #[.slice a ts.length cap, .slice sa ss.length scap, .int .i64 t] w fun e w' => e = .returned (.int .i64 (blV ts ss t)) ∧ Below w.heap.size w w' := by
  have HR := Lib.hid hr
  have HS := Lib.hid hs
  clear hr hs
  cases hv : scB ts ss with
  | false =>
    have HY := Lib.hid (blV_no (ts := ts) (ss := ss) (t := t) (fun h => by rw [hv] at h; simp at h))
    go_enter Try.func26, Try.ntmps26
    go_wp2_with fail
    refine (specSectionsValid_any _ _ _ _ _ _ _ HR.out HS.out hn hsn).mono ?_
    rintro e w1 ⟨rfl, b1⟩
    rw [hv]
    clear hv
    go_wp2
    go_ret
    exact ⟨ret_int HY.out.symm, b1⟩
  | true =>
  have HV := Lib.hid hv
  clear hv
  by_cases ht : 0 ≤ t ∧ t ≤ 120
  · obtain ⟨n, rfl⟩ := Int.eq_ofNat_of_zero_le ht.1
    have hin : inB n 0 120 = true := decide_eq_true ht
    have HY := Lib.hid (blV_yes (t := n) HV.out (by omega))
    go_enter Try.func26, Try.ntmps26
    go_wp2_with fail
    refine (specSectionsValid_any _ _ _ _ _ _ _ HR.out HS.out hn hsn).mono ?_
    rintro e w1 ⟨rfl, b1⟩
    rw [HV.out]
    have R1 := Lib.hid (HR.out.below b1)
    have S1 := Lib.hid (HS.out.below b1)
    go_wp2_with fail
    refine (l1In_any _ _ _ _).mono ?_
    rintro e w2 ⟨rfl, rfl⟩
    go_wp2_with fail
    refine (l6Block_any _ _ _ _ _ _ _ _ R1.out S1.out HV.out).mono ?_
    rintro e w2 ⟨rfl, rfl⟩
    go_wp2
    go_ret
    exact ⟨ret_int HY.out.symm, b1⟩
  · have hin : inB t 0 120 = false := decide_eq_false ht
    have HY := Lib.hid (blV_no (ts := ts) (ss := ss) (t := t) (fun h => ht h.2))
    clear ht
    go_enter Try.func26, Try.ntmps26
    go_wp2_with fail
    refine (specSectionsValid_any _ _ _ _ _ _ _ HR.out HS.out hn hsn).mono ?_
    rintro e w1 ⟨rfl, b1⟩
    rw [HV.out]
    go_wp2_with fail
    refine (l1In_any _ _ _ _).mono ?_
    rintro e w2 ⟨rfl, rfl⟩
    go_wp2
    go_ret
    exact ⟨ret_int HY.out.symm, b1⟩

/-- spec.ResourcesFeasible. -/
theorem specResourcesFeasible_any (a sa : Option Addr) (cap scap : Nat) (ts ss : List T3) (w : World) (hr : Row w a ts) (hs : Row w sa ss) (hn : ts.length ≤ 1099511627776) (hsn : ss.length ≤ 1099511627776) :
    Calls Try.prog 28 #[.slice a ts.length cap, .slice sa ss.length scap] w fun e w' => e = .returned (.bool (rfB ts ss)) ∧ Below w.heap.size w w' := by
  have HR := Lib.hid hr
  have HS := Lib.hid hs
  clear hr hs
  cases hv : scB ts ss with
  | false =>
    have HY := Lib.hid (rf_no1 hv)
    go_enter Try.func28, Try.ntmps28
    go_wp2_with fail
    refine (specSectionsValid_any _ _ _ _ _ _ _ HR.out HS.out hn hsn).mono ?_
    rintro e w1 ⟨rfl, b1⟩
    rw [hv]
    clear hv
    go_wp2
    go_ret
    exact ⟨ret_bool HY.out.symm, b1⟩
  | true =>
  have HV := Lib.hid hv
  have HSV := Lib.hid (scB_iff.1 hv).1
  clear hv
  go_enter Try.func28, Try.ntmps28
  go_wp2_with fail
  refine (specSectionsValid_any _ _ _ _ _ _ _ HR.out HS.out hn hsn).mono ?_
  rintro e w1 ⟨rfl, b1⟩
  rw [HV.out]
  have R1 := Lib.hid (HR.out.below b1)
  have S1 := Lib.hid (HS.out.below b1)
  have B1 := Lib.hid b1
  have hhb := hyp_bd ts (sv_all HSV.out).1
  have hl5 := (sv_all HSV.out).2
  clear b1 HR HS
  go_wp2_with fail
  refine (l1Hyper_any _ _ _ _ R1.out hn (sv_all HSV.out).1).mono ?_
  rintro e w2 ⟨rfl, n2, hw2⟩
  have b2 : Below w1.heap.size w1 w2 := by rw [hw2]; exact below_drewN _ _
  have R2 := Lib.hid (R1.out.below b2)
  have S2 := Lib.hid (S1.out.below b2)
  have B2 := Lib.hid (B1.out.trans (b2.mono B1.out.size))
  clear hw2 b2 R1 S1 B1
  obtain ⟨H, hH⟩ : ∃ H, H = hyp ts := ⟨_, rfl⟩
  rw [← hH] at hhb ⊢
  have HH := Lib.hid hH
  clear hH
  go_wp2
  go_loopg [6] H (fun m i wr => ∃ t : Nat, m + t = H + 1 ∧ 1 ≤ t ∧ i = .int .i64 t ∧ (∀ u, 1 ≤ u → u < t → dem ts u + bl ts ss u ≤ u) ∧ Below w2.heap.size w2 wr)
  case atStart => exact ⟨1, rfl, Nat.le_refl _, rfl, fun u h1 h2 => by omega, Below.refl _ _⟩
  case round =>
    obtain ⟨t, hk, ht1, rfl, hall, B⟩ := hrel
    have HK := Lib.hid hk
    have HA := Lib.hid hall
    have HB := Lib.hid B
    have htt : t ≤ H + 1 := by omega
    clear hk hall B
    by_cases hlt : t ≤ H
    · have hlt' : (t : Int) ≤ H := by omega
      have hvb := dem_le ts (sv_all HSV.out).1 t
      have hvb2 : ts.length * (8 * (t + 1)) ≤ 5 * (8 * 27721) := Nat.mul_le_mul hl5 (Nat.mul_le_mul (Nat.le_refl _) (by omega))
      have hb8 : bl ts ss t ≤ 8 := blN_le8 HV.out t (Nat.le_refl _)
      have HAT := Lib.hid (fun h : dem ts t + bl ts ss t ≤ t => fun u (h1 : 1 ≤ u) (h2 : u < t + 1) => show dem ts u + bl ts ss u ≤ u from by
        by_cases e : u = t
        · subst e; exact h
        · exact HA.out u h1 (by omega))
      have HNO := Lib.hid (fun h : ¬ dem ts t + bl ts ss t ≤ t => rf_no2 (ts := ts) (ss := ss) ht1 (by rw [← HH.out]; exact hlt) h)
      have CD := Lib.hid (l2Demand_any a cap ts t wr (R2.out.below HB.out) HSV.out (by omega))
      have CB := Lib.hid (fun W (hB : Below wr.heap.size wr W) => l6Block_any a sa cap scap t ts ss W ((R2.out.below HB.out).below hB) ((S2.out.below HB.out).below hB) HV.out)
      obtain ⟨V, hV⟩ : ∃ V, V = dem ts t := ⟨_, rfl⟩
      obtain ⟨X, hX⟩ : ∃ X, X = bl ts ss t := ⟨_, rfl⟩
      rw [← hV] at hvb HAT HNO CD
      rw [← hX] at hb8 HAT HNO CB
      have hV2 : V ≤ 1108840 := by omega
      clear hvb hvb2 hV hX
      go_wp2_with fail
      refine CD.out.mono ?_
      rintro e w3 ⟨rfl, n3, hw3⟩
      have b3 : Below wr.heap.size wr w3 := by rw [hw3]; exact below_drewN _ _
      have B3 := Lib.hid (HB.out.trans (b3.mono HB.out.size))
      clear hw3
      go_wp2_with fail
      refine (CB.out _ b3).mono ?_
      rintro e w4 ⟨rfl, rfl⟩
      clear b3 CD CB
      by_cases hc : V + X ≤ t
      · have hc' : ¬ (t : Int) < (V : Int) + X := by omega
        have HC := Lib.hid hc
        clear hc
        go_wp2
        go_roundg (gk - 1)
        case measure => have := HK.out; omega
        case rel => exact ⟨t + 1, by have := HK.out; omega, by omega, by go_num, HAT.out HC.out, B3.out⟩
      · have hc' : (t : Int) < (V : Int) + X := by omega
        have HC := Lib.hid hc
        clear hc
        go_wp2
        go_ret
        exact ⟨ret_bool (HNO.out HC.out).symm, B2.out.trans (B3.out.mono B2.out.size)⟩
    · have hlt' : ¬ (t : Int) ≤ H := by omega
      have HY := Lib.hid (rfB_iff.2 ⟨HV.out, fun u h1 h2 => HA.out u h1 (by rw [← HH.out] at h2; omega)⟩)
      go_wp2
      go_ret
      exact ⟨ret_bool HY.out.symm, B2.out.trans (HB.out.mono B2.out.size)⟩

end Go.Proofs.Ytfacohicfcdamaa
