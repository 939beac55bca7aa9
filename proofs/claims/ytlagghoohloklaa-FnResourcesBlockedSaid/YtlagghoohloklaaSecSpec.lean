/- Contracts of spec.SectionsValid, spec.l6Ceiling, spec.Ceilings, spec.l6Block, spec.Blocking, spec.ResourcesFeasible. Conditions: the slices hold what is said, at most 2^40 entries. -/
import Derived.Test.YtlagghoohloklaaOwn3
import Derived.Test.YtlagghoohloklaaDemSpec
import Derived.BigQuiet
namespace Go.Proofs.Ytlagghoohloklaa
open Go.RowKit Go.Deep

set_option maxRecDepth 100000 in
set_option maxHeartbeats 4000000 in
/-- spec.SectionsValid. -/
theorem specSectionsValid_any (a sa : Option Addr) (cap scap : Nat) (ts ss : List T3) (w : World) (hr : Row w a ts) (hs : Row w sa ss) (hn : ts.length ≤ 1099511627776) (_hsn : ss.length ≤ 1099511627776) :
    Calls Try.prog 52 #[.slice a ts.length cap, .slice sa ss.length scap] w fun e w' => e = .returned (.bool (scB ts ss)) ∧ Below w.heap.size w w' := by
  have HR := Lib.hid hr
  have HS := Lib.hid hs
  clear hr hs
  cases hv : svB ts with
  | false =>
    go_enter Try.func52, Try.ntmps52
    go_wp2_with fail
    refine (specSetValid_any _ _ _ _ HR.out hn).mono ?_
    rintro e w1 ⟨rfl, b1⟩
    rw [hv]
    have HY := Lib.hid (sc_no1 (ss := ss) hv)
    clear hv
    go_wp2
    go_ret
    exact ⟨ret_bool HY.out.symm, b1⟩
  | true =>
  have HV := Lib.hid hv
  clear hv
  by_cases hl : ss.length = ts.length
  · have hlb : ((ss.length : Int) != (ts.length : Int)) = false := by simp; omega
    have hlb2 : (ss.length != ts.length) = false := by simp; omega
    have HL := Lib.hid hl
    clear hl
    go_enter Try.func52, Try.ntmps52
    go_wp2_with fail
    refine (specSetValid_any _ _ _ _ HR.out hn).mono ?_
    rintro e w1 ⟨rfl, b1⟩
    rw [HV.out]
    have R1 := Lib.hid (HR.out.below b1)
    have S1 := Lib.hid (HS.out.below b1)
    have B1 := Lib.hid b1
    have CI := Lib.hid l1In_any
    clear b1 HR HS
    go_wp2
    clear hlb hlb2
    go_loopg [5] ss.length (fun m i wr => ∃ k : Nat, m + k = ss.length ∧ i = .int .i64 k ∧ (∀ j, j < k → sc1 (tk ts j) (tk ss j) = true) ∧ Below w1.heap.size w1 wr)
    case atStart => exact ⟨0, rfl, rfl, fun j hj => absurd hj (Nat.not_lt_zero _), Below.refl _ _⟩
    case round =>
      obtain ⟨k, hk, rfl, hall, B⟩ := hrel
      have HK := Lib.hid hk
      have HA := Lib.hid hall
      have hkk : k ≤ ss.length := by omega
      clear hk hall
      by_cases hlt : k < ss.length
      · have hlt2 : k < ts.length := by have := HL.out; omega
        obtain ⟨b, off, rfl, hbs, x0, x1, x2⟩ := (S1.out.below B).tk hlt
        obtain ⟨bt, ot, rfl, hbt, y0, -, -⟩ := (R1.out.below B).tk hlt2
        have htv := (tvB_iff _ _ _).1 (tk_sv HV.out hlt2)
        obtain ⟨⟨p, q, r⟩, hQ⟩ : ∃ s, s = tk ss k := ⟨_, rfl⟩
        obtain ⟨C, hC⟩ : ∃ C, C = (tk ts k).1 := ⟨_, rfl⟩
        rw [← hQ] at x0 x1 x2
        rw [← hC] at y0 htv
        simp only at x0 x1 x2
        have hc1 : 1 ≤ C := htv.1
        have hc8 : C ≤ 8 := htv.2.1
        have HQ := Lib.hid hQ
        have HC := Lib.hid hC
        have hk0 : (0 : Int) ≤ k := by omega
        have hk1 : (k : Int) < ss.length := by omega
        have hk2 : (k : Int) < ts.length := by omega
        have hn1 : ¬ bt = wr.heap.size := by omega
        have hn2 : ¬ wr.heap.size = bt := by omega
        clear hQ hC htv
        by_cases hq : q = 0
        · subst hq
          by_cases hp : p = 0
          · subst hp
            by_cases hr : r = 0
            · subst hr
              have C1 : inB 0 0 C = true := decide_eq_true (by omega)
              have C3 : inB 0 0 2 = true := decide_eq_true (by omega)
              have HY := Lib.hid (show sc1 (tk ts k) (tk ss k) = true by rw [← HQ.out]; rw [sc1_iff, ← HC.out]; exact ⟨fun _ => ⟨rfl, rfl⟩, by simp only; omega⟩)
              go_wp2
              go_quiet ((go_at_call 55; exact quiet_left (CI.out _ _ _ _)))
              go_wp2
              go_roundg (gk - 1)
              case measure => have := HK.out; omega
              case rel => exact ⟨k + 1, by have := HK.out; omega, by go_num, fun j hj => by
                by_cases e : j = k
                · subst e; exact HY.out
                · exact HA.out j (by omega), below_drewN' (B.alloc B.size _) _⟩
            · have hr0 : (r != 0) = true := bne_iff_ne.2 hr
              have HY := Lib.hid (sc_no3 (ts := ts) hlt (show sc1 (tk ts k) (tk ss k) = false by rw [← HQ.out]; exact decide_eq_false (by rw [← HC.out]; rintro ⟨h, _⟩; exact hr (h rfl).2)))
              clear hr
              go_wp2
              go_quiet ((go_at_call 55; exact quiet_left (CI.out _ _ _ _)))
              go_wp2
              go_ret
              exact ⟨ret_bool HY.out.symm, B1.out.trans ((below_drewN' (B.alloc B.size _) _).mono B1.out.size)⟩
          · have hp0 : (p != 0) = true := bne_iff_ne.2 hp
            have HY := Lib.hid (sc_no3 (ts := ts) hlt (show sc1 (tk ts k) (tk ss k) = false by rw [← HQ.out]; exact decide_eq_false (by rw [← HC.out]; rintro ⟨h, _⟩; exact hp (h rfl).1)))
            clear hp
            go_wp2
            go_quiet ((go_at_call 55; exact quiet_left (CI.out _ _ _ _)))
            go_wp2
            go_ret
            exact ⟨ret_bool HY.out.symm, B1.out.trans ((below_drewN' (B.alloc B.size _) _).mono B1.out.size)⟩
        · have hq0 : (q == 0) = false := beq_eq_false_iff_ne.2 hq
          by_cases h1 : 0 ≤ q ∧ q ≤ C
          · have C1 : inB q 0 C = true := decide_eq_true h1
            have hw : IntKind.i64.wrap (C - q) = C - q := IntWalk.i64_in _ (by omega)
            by_cases h2 : 0 ≤ p ∧ p ≤ C - q
            · have C2 : inB p 0 (C - q) = true := decide_eq_true h2
              by_cases h3 : 0 ≤ r ∧ r ≤ 2
              · have C3 : inB r 0 2 = true := decide_eq_true h3
                have HY := Lib.hid (show sc1 (tk ts k) (tk ss k) = true by rw [← HQ.out]; rw [sc1_iff, ← HC.out]; exact ⟨fun h => absurd h hq, h1.1, h1.2, h2.1, h2.2, h3.1, h3.2⟩)
                clear h1 h2 h3 hq
                go_wp2
                go_quiet ((go_at_call 55; exact quiet_left (CI.out _ _ _ _)))
                go_wp2
                go_roundg (gk - 1)
                case measure => have := HK.out; omega
                case rel => exact ⟨k + 1, by have := HK.out; omega, by go_num, fun j hj => by
                  by_cases e : j = k
                  · subst e; exact HY.out
                  · exact HA.out j (by omega), below_drewN' (B.alloc B.size _) _⟩
              · have C3 : inB r 0 2 = false := decide_eq_false h3
                have HY := Lib.hid (sc_no3 (ts := ts) hlt (show sc1 (tk ts k) (tk ss k) = false by rw [← HQ.out]; exact decide_eq_false (by rw [← HC.out]; rintro ⟨_, _, _, _, _, h⟩; exact h3 h)))
                clear h1 h2 h3 hq
                go_wp2
                go_quiet ((go_at_call 55; exact quiet_left (CI.out _ _ _ _)))
                go_wp2
                go_ret
                exact ⟨ret_bool HY.out.symm, B1.out.trans ((below_drewN' (B.alloc B.size _) _).mono B1.out.size)⟩
            · have C2 : inB p 0 (C - q) = false := decide_eq_false h2
              have HY := Lib.hid (sc_no3 (ts := ts) hlt (show sc1 (tk ts k) (tk ss k) = false by rw [← HQ.out]; exact decide_eq_false (by rw [← HC.out]; rintro ⟨_, _, _, a, b, _⟩; exact h2 ⟨a, b⟩)))
              clear h1 h2 hq
              go_wp2
              go_quiet ((go_at_call 55; exact quiet_left (CI.out _ _ _ _)))
              go_wp2
              go_ret
              exact ⟨ret_bool HY.out.symm, B1.out.trans ((below_drewN' (B.alloc B.size _) _).mono B1.out.size)⟩
          · have C1 : inB q 0 C = false := decide_eq_false h1
            have HY := Lib.hid (sc_no3 (ts := ts) hlt (show sc1 (tk ts k) (tk ss k) = false by rw [← HQ.out]; exact decide_eq_false (by rw [← HC.out]; rintro ⟨_, a, b, _⟩; exact h1 ⟨a, b⟩)))
            clear h1 hq
            go_wp2
            go_quiet ((go_at_call 55; exact quiet_left (CI.out _ _ _ _)))
            go_wp2
            go_ret
            exact ⟨ret_bool HY.out.symm, B1.out.trans ((below_drewN' (B.alloc B.size _) _).mono B1.out.size)⟩
      · obtain rfl : k = ss.length := by omega
        have HY := Lib.hid (scB_iff.2 ⟨HV.out, HL.out, HA.out⟩)
        have hlt2 : ¬ (ss.length : Int) < ss.length := by omega
        go_wp2
        go_ret
        exact ⟨ret_bool HY.out.symm, B1.out.trans (B.mono B1.out.size)⟩
  · have hlb : ((ss.length : Int) != (ts.length : Int)) = true := by simp; omega
    have hlb2 : (ss.length != ts.length) = true := by simp; omega
    have HY := Lib.hid (sc_no2 (ts := ts) hl)
    clear hl
    go_enter Try.func52, Try.ntmps52
    go_wp2_with fail
    refine (specSetValid_any _ _ _ _ HR.out hn).mono ?_
    rintro e w1 ⟨rfl, b1⟩
    rw [HV.out]
    go_wp2
    go_ret
    exact ⟨ret_bool HY.out.symm, b1⟩

/-- spec.l6Ceiling. -/
theorem l6Ceiling_any (a sa : Option Addr) (cap scap r : Nat) (ts ss : List T3) (w : World) (hr : Row w a ts) (hs : Row w sa ss) (hv : scB ts ss = true) :
    Calls Try.prog 101 #[.slice a ts.length cap, .slice sa ss.length scap, .int .i64 (r : Int)] w fun e w' => e = .returned (.int .i64 (ce ts ss r : Nat)) ∧ w = w' := by
  have HR := Lib.hid hr
  have HS := Lib.hid hs
  have HV := Lib.hid hv
  have h5 := (sv_all (scB_iff.1 hv).1).2
  have HL := Lib.hid (scB_iff.1 hv).2.1
  clear hr hs hv
  go_enter Try.func101, Try.ntmps101
  go_wp2
  go_loopg [7, 8] ts.length (fun m c i wr => ∃ k : Nat, m + k = ts.length ∧ i = .int .i64 k ∧ c = .int .i64 (ceN ts ss r k : Nat) ∧ w = wr)
  case atStart => exact ⟨0, rfl, rfl, rfl, rfl⟩
  case round =>
    obtain ⟨k, hk, rfl, rfl, rfl⟩ := hrel
    have HK := Lib.hid hk
    have hkk : k ≤ ts.length := by omega
    clear hk
    have h13 := ceN_13 ts ss r k
    by_cases hlt : k < ts.length
    · have hlt2 : k < ss.length := by have := HL.out; omega
      obtain ⟨b, off, rfl, hbs, -, x1, x2⟩ := HS.out.tk hlt2
      obtain ⟨bt, ot, rfl, hbt, -, y1, -⟩ := HR.out.tk hlt
      have hnat := sc_nat HV.out hlt
      rw [hnat.2.1] at x1
      rw [hnat.2.2.1] at x2
      rw [hnat.2.2.2.1] at y1
      have hd12 : tdl ts k ≤ 12 := by omega
      obtain ⟨X, hX⟩ : ∃ X, X = ceN ts ss r k := ⟨_, rfl⟩
      obtain ⟨L, hL⟩ : ∃ L, L = sln ss k := ⟨_, rfl⟩
      obtain ⟨S, hS⟩ : ∃ S, S = srs ss k := ⟨_, rfl⟩
      obtain ⟨D, hD⟩ : ∃ D, D = tdl ts k := ⟨_, rfl⟩
      have hstep : ceN ts ss r (k + 1) = if 0 < L ∧ S = r then min X D else X := by rw [hX, hL, hS, hD]; rfl
      rw [← hX] at h13
      rw [← hX]
      rw [← hL] at x1
      rw [← hS] at x2
      rw [← hD] at y1 hd12
      have HST := Lib.hid hstep
      have hL12 : L ≤ 12 := by rw [hL]; omega
      have hS12 : S ≤ 12 := by rw [hS]; omega
      clear hnat hX hL hS hD hstep
      have hk0 : (0 : Int) ≤ k := by omega
      have hk1 : (k : Int) < ts.length := by omega
      have hk2 : (k : Int) < ss.length := by omega
      by_cases hl : 0 < L
      · have hl' : (0 : Int) < L := by omega
        by_cases he : S = r
        · have heb : (S == r) = true := beq_iff_eq.2 he
          have heb2 : ((S : Int) == (r : Int)) = true := beq_iff_eq.2 (by omega)
          have HN := Lib.hid (show ceN ts ss r (k + 1) = min X D by rw [HST.out, if_pos ⟨hl, he⟩])
          clear he
          by_cases hm : D < X
          · have hm' : (D : Int) < X := by omega
            have HN2 := Lib.hid (show ceN ts ss r (k + 1) = D by rw [HN.out]; omega)
            go_wp2
            go_roundg (gk - 1)
            case measure => have := HK.out; omega
            case rel => exact ⟨k + 1, by have := HK.out; omega, by go_num, by rw [HN2.out], rfl⟩
          · have hm' : ¬ (D : Int) < X := by omega
            have HN2 := Lib.hid (show ceN ts ss r (k + 1) = X by rw [HN.out]; omega)
            go_wp2
            go_roundg (gk - 1)
            case measure => have := HK.out; omega
            case rel => exact ⟨k + 1, by have := HK.out; omega, by go_num, by rw [HN2.out], rfl⟩
        · have heb : (S == r) = false := beq_eq_false_iff_ne.2 he
          have heb2 : ((S : Int) == (r : Int)) = false := beq_eq_false_iff_ne.2 (by omega)
          have HN := Lib.hid (show ceN ts ss r (k + 1) = X by rw [HST.out, if_neg (fun h => he h.2)])
          clear he
          go_wp2
          go_roundg (gk - 1)
          case measure => have := HK.out; omega
          case rel => exact ⟨k + 1, by have := HK.out; omega, by go_num, by rw [HN.out], rfl⟩
      · have hl' : ¬ (0 : Int) < L := by omega
        have HN := Lib.hid (show ceN ts ss r (k + 1) = X by rw [HST.out, if_neg (fun h => hl h.1)])
        go_wp2
        go_roundg (gk - 1)
        case measure => have := HK.out; omega
        case rel => exact ⟨k + 1, by have := HK.out; omega, by go_num, by rw [HN.out], rfl⟩
    · obtain rfl : k = ts.length := by omega
      go_wp2
      go_ret
      exact ⟨rfl, rfl⟩

/-- What Ceilings gives. -/
def ceL (ts ss : List T3) : Nat := if scB ts ss = true then 3 else 0
def CeGot (base : Nat) (ts ss : List T3) (e : Ending) (w' : World) : Prop := ∃ v, e = .returned v ∧ OwnI w' base v (ceL ts ss) (fun r => (ce ts ss r : Nat))

/-- What Blocking gives. -/
def blV (ts ss : List T3) (t : Int) : Int := if scB ts ss = true ∧ 0 ≤ t ∧ t ≤ 120 then (bl ts ss t.toNat : Nat) else -1
theorem blV_no {ts ss : List T3} {t : Int} (h : ¬ (scB ts ss = true ∧ 0 ≤ t ∧ t ≤ 120)) : blV ts ss t = -1 := if_neg h
theorem blV_yes {ts ss : List T3} {t : Nat} (h : scB ts ss = true) (ht : t ≤ 120) : blV ts ss t = (bl ts ss t : Nat) := by
  rw [blV, if_pos ⟨h, by omega, by omega⟩]
  rfl

end Go.Proofs.Ytlagghoohloklaa
