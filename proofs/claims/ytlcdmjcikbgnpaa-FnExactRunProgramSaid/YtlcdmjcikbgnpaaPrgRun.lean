/- Contracts of the reference's l8Take, l8Run and RunProgram. Conditions: the slices hold what is said; what each theorem names. -/
import Derived.Test.YtlcdmjcikbgnpaaPrgVal
import Derived.BigQuiet
namespace Go.Proofs.Ytlcdmjcikbgnpaa
open Go.RowKit Go.Deep

/-- A slice that holds these choices. -/
def ChF (w : World) (v : Value) (cs : List Int) : Prop := ∃ a cap, v = .slice a cs.length cap ∧ cs.length ≤ cap ∧ IntF w a cs.length fun k => cs.getD k 0
theorem ChF.below {w w' : World} {v : Value} {cs : List Int} (h : ChF w v cs) (hb : Below w.heap.size w w') : ChF w' v cs := by
  obtain ⟨a, cap, e, hc, hi⟩ := h
  exact ⟨a, cap, e, hc, hi.below hb⟩
/-- The first choice and the others. -/
theorem chF_cons {w : World} {v : Value} {c : Int} {r : List Int} (h : ChF w v (c :: r)) : ∃ b off cap, v = .slice (some ⟨b, off, none⟩) (r.length + 1) (cap + 1) ∧ w.cell? ⟨b, off, none⟩ = some (.int .i64 c) ∧
    ChF w (.slice (if cap = 0 then some ⟨b, off, none⟩ else some ⟨b, off + 1, none⟩) r.length cap) r := by
  obtain ⟨a, cap, rfl, hc, hi⟩ := h
  obtain ⟨b, off, rfl, hb, c0⟩ := hi 0 (by simp)
  simp only [List.length_cons] at hc
  refine ⟨b, off, cap - 1, by simp only [List.length_cons]; congr 1; omega, by simpa using c0, _, cap - 1, rfl, by omega, fun k hk => ?_⟩
  obtain ⟨b', off', e, hb', c1⟩ := hi (k + 1) (by simp; omega)
  simp only [Option.some.injEq, Addr.mk.injEq, and_true] at e
  obtain ⟨rfl, rfl⟩ := e
  rw [if_neg (by omega)]
  exact ⟨b, off + 1, rfl, hb', by rw [show off + 1 + k = off + (k + 1) by omega]; simpa using c1⟩
theorem take_mod (c : Int) {m : Int} (hm : 0 < m) : Int.tmod (Int.tmod c m + m) m = c % m := by
  have h1 : -m < Int.tmod c m := by
    have := Int.lt_tmod_of_pos c hm
    omega
  rw [Int.tmod_eq_emod_of_nonneg (by omega), Int.tmod_def]
  rw [show c - m * c.tdiv m + m = c + m * (1 - c.tdiv m) by rw [Int.mul_sub]; omega]
  exact Int.add_mul_emod_self_left _ _ _

set_option maxRecDepth 100000 in
set_option maxHeartbeats 2000000 in
/-- spec.l8Take. -/
theorem l8Take_any (v : Value) (cs : List Int) (m : Nat) (h1 : 1 ≤ m) (h5 : m ≤ 5) (w : World) (hc : ChF w v cs) :
    Calls Try.prog 57 #[v, .int .i64 (m : Int)] w fun e w' => ∃ v', e = .returned (.tuple #[.int .i64 ((tk8 m cs).1 : Nat), v']) ∧ ChF w' v' (tk8 m cs).2 ∧ Below w.heap.size w w' := by
  cases cs with
  | nil =>
    have HC := Lib.hid hc
    obtain ⟨a, cap, rfl, -, -⟩ := hc
    go_enter Try.func57, Try.ntmps57
    go_wp2
    go_ret2
    exact ⟨_, rfl, HC.out, Below.refl _ _⟩
  | cons c r =>
    obtain ⟨b, off, cap, rfl, c0, hr⟩ := chF_cons hc
    have HR := Lib.hid hr
    have hm0 : (0 : Int) < m := by omega
    have hm1 : ¬ (m : Int) = 0 := by omega
    clear hc hr
    go_enter Try.func57, Try.ntmps57
    have ht1 : -(m : Int) < Int.tmod c m ∧ Int.tmod c m < m := by
      have h := Int.lt_tmod_of_pos c hm0
      have h' := Int.tmod_lt_of_pos c hm0
      omega
    have hw1 : IntKind.i64.wrap (Int.tmod c m) = Int.tmod c m := IntWalk.i64_in _ (by omega)
    have hw2 : IntKind.i64.wrap (Int.tmod c m + m) = Int.tmod c m + m := IntWalk.i64_in _ (by omega)
    have htm := take_mod c hm0
    have htn : 0 ≤ c % (m : Int) ∧ c % (m : Int) < m := ⟨Int.emod_nonneg _ (by omega), Int.emod_lt_of_pos _ hm0⟩
    have hw3 : IntKind.i64.wrap (c % (m : Int)) = c % (m : Int) := IntWalk.i64_in _ (by omega)
    have hlen : (((r.length : Int) + 1) == 0) = false := by simp; omega
    have hres : c % (m : Int) = (((tk8 m (c :: r)).1 : Nat) : Int) := (Int.toNat_of_nonneg htn.1).symm
    have HRES := Lib.hid hres
    clear ht1 htn hres
    by_cases hcap : cap = 0
    · subst hcap
      go_wp2
      go_quiet (fail)
      go_wp2
      go_ret2
      exact ⟨_, by rw [HRES.out]; rfl, (by simpa using HR.out.below (below_drewN' (Below.refl _ _) _) : ChF _ _ r), below_drewN' (Below.refl _ _) _⟩
    · have HC := Lib.hid hcap
      go_wp2
      go_quiet (fail)
      go_wp2
      go_ret2
      refine ⟨_, by rw [HRES.out]; rfl, ?_, below_drewN' (Below.refl _ _) _⟩
      have := HR.out.below (below_drewN' (Below.refl _ _) nq)
      rw [if_neg HC.out] at this
      exact this

set_option maxRecDepth 100000 in
set_option maxHeartbeats 4000000 in
/-- spec.l8Run. -/
theorem l8Run_any (a : Option Addr) (cap : Nat) (ps : List N5) (hv : PV ps) (_hn : ps.length ≤ 1000) : ∀ (i : Nat), i < ps.length → wc8 true ps i ≤ 600 → ∀ (v : Value) (cs : List Int) (w : World), RowN w a ps → ChF w v cs →
    Calls Try.prog 48 #[.slice a ps.length cap, .int .i64 (i : Int), v] w fun e w' => ∃ v', e = .returned (.tuple #[.int .i64 ((rn8 ps i cs).1 : Nat), v']) ∧ ChF w' v' (rn8 ps i cs).2 ∧ Below w.heap.size w w' := by
  intro i
  induction i using Nat.strongRecOn with
  | _ i ih =>
    intro hi hw6 v cs w hr hc
    have IH := Lib.hid ih
    have HR := Lib.hid hr
    have HC := Lib.hid hc
    have hi0 : (0 : Int) ≤ i := by omega
    have hi1 : (i : Int) < ps.length := by omega
    clear hr hc ih
    cases nv_of (hv i hi) with
    | block c h h1 h9 =>
      obtain ⟨b, off, rfl, hb, n0, n1, n2, n3, n4⟩ := rowN_at HR.out hi h
      have HE := Lib.hid (rn8_block h cs)
      have HV := Lib.hid hv
      clear h hv hw6
      go_enter Try.func48, Try.ntmps48
      go_wp2
      go_ret2
      rw [HE.out]
      exact ⟨_, rfl, HC.out.below (below_box _ _), below_box _ _⟩
    | seq x y h ha hb =>
      obtain ⟨b, off, rfl, hb0, n0, n1, n2, n3, n4⟩ := rowN_at HR.out hi h
      have hc6 := hw6
      rw [wc8_seq h ha hb] at hc6
      have I1 := fun v w => IH.out x ha (by omega) (by omega) v cs w
      have B1 := (rn8_bounds hv x (by omega) cs).2
      have HE := rn8_seq h ha hb cs
      obtain ⟨X, hX⟩ : ∃ X, X = rn8 ps x cs := ⟨_, rfl⟩
      rw [← hX] at I1 B1 HE
      have I2 := fun v w => IH.out y hb (by omega) (by omega) v X.2 w
      have B2 := (rn8_bounds hv y (by omega) X.2).2
      obtain ⟨Y, hY⟩ : ∃ Y, Y = rn8 ps y X.2 := ⟨_, rfl⟩
      rw [← hY] at I2 B2 HE
      rw [HE]
      obtain ⟨x1, x2⟩ := X
      obtain ⟨y1, y2⟩ := Y
      have B3 : x1 + y1 ≤ 600 := by simp only at B1 B2; omega
      have J1 := Lib.hid I1
      have J2 := Lib.hid I2
      have HV := Lib.hid hv
      clear h hv hw6 hc6 hX hY HE B1 B2 IH I1 I2
      go_enter Try.func48, Try.ntmps48
      go_wp2_with ((fail_if_success (have q := HB1)); go_at_call 48; refine (J1.out _ _ (HR.out.below (below_box w _)) (HC.out.below (below_box w _))).mono ?_; rintro e w' ⟨v', rfl, hc1, hb1⟩; have e3 : w'.cell? ⟨w.heap.size, 3, none⟩ = some (.int .i64 y) := (hb1.cell (p := ⟨w.heap.size, 3, none⟩) (by simp)).trans (by go_simp); have HC1 := Lib.hid hc1; have HB1 := Lib.hid ((below_box w _).trans (hb1.mono (below_box w _).size)); clear hc1 hb1)
      refine (J2.out _ _ (HR.out.below HB1.out) HC1.out).mono ?_
      rintro e w2 ⟨v2, rfl, hc2, hb2⟩
      have HC2 := Lib.hid hc2
      have HB2 := Lib.hid (HB1.out.trans (hb2.mono HB1.out.size))
      clear hc2 hb2
      go_wp2
      go_ret2
      exact ⟨_, by rw [Int.natCast_add]; rfl, HC2.out, HB2.out⟩
    | branch c x y h h1 h9 ha hb =>
      obtain ⟨b, off, rfl, hb0, n0, n1, n2, n3, n4⟩ := rowN_at HR.out hi h
      have hc6 := hw6
      rw [wc8_branch h ha hb, if_pos rfl] at hc6
      have HE := rn8_branch h ha hb cs
      have J0 : ∀ v w, ChF w v cs → Calls Try.prog 57 #[v, .int .i64 2] w fun e w' => ∃ v', e = .returned (.tuple #[.int .i64 ((tk8 2 cs).1 : Nat), v']) ∧ ChF w' v' (tk8 2 cs).2 ∧ Below w.heap.size w w' := fun v w hc => l8Take_any v cs 2 (by omega) (by omega) w hc
      have hlt := tk8_lt (show 1 ≤ 2 by omega) cs
      obtain ⟨T, hT⟩ : ∃ T, T = tk8 2 cs := ⟨_, rfl⟩
      rw [← hT] at J0 HE hlt
      obtain ⟨t1, t2⟩ := T
      simp only at HE hlt
      have I1 := fun v w => IH.out (if t1 = 1 then y else x) (by split <;> omega) (by split <;> omega) (by split <;> omega) v t2 w
      have B1 := (rn8_bounds hv (if t1 = 1 then y else x) (by split <;> omega) t2).2
      have B4 : wc8 true ps (if t1 = 1 then y else x) + c ≤ 600 := by split <;> omega
      obtain ⟨X, hX⟩ : ∃ X, X = rn8 ps (if t1 = 1 then y else x) t2 := ⟨_, rfl⟩
      rw [← hX] at I1 B1 HE
      rw [HE]
      obtain ⟨x1, x2⟩ := X
      have B3 : c + x1 ≤ 600 := by simp only at B1; omega
      have J0 := Lib.hid J0
      have HV := Lib.hid hv
      clear h hv hw6 hc6 hX hT HE B1 B4 IH
      rcases (show t1 = 0 ∨ t1 = 1 by omega) with rfl | rfl
      · rw [if_neg (by decide)] at I1
        have J1 := Lib.hid I1
        clear I1
        go_enter Try.func48, Try.ntmps48
        go_wp2_with ((fail_if_success (have q := HB1)); go_at_call 57; refine (J0.out _ _ (HC.out.below (below_box w _))).mono ?_; rintro e w' ⟨v', rfl, hc1, hb1⟩; have e1 : w'.cell? ⟨w.heap.size, 1, none⟩ = some (.int .i64 c) := (hb1.cell (p := ⟨w.heap.size, 1, none⟩) (by simp)).trans (by go_simp); have e2 : w'.cell? ⟨w.heap.size, 2, none⟩ = some (.int .i64 x) := (hb1.cell (p := ⟨w.heap.size, 2, none⟩) (by simp)).trans (by go_simp); have e3 : w'.cell? ⟨w.heap.size, 3, none⟩ = some (.int .i64 y) := (hb1.cell (p := ⟨w.heap.size, 3, none⟩) (by simp)).trans (by go_simp); have hsz : w.heap.size < w'.heap.size := Nat.lt_of_lt_of_le (by simp) hb1.size; have HSZ := Lib.hid hsz; have HC1 := Lib.hid hc1; have HB1 := Lib.hid ((below_box w _).trans (hb1.mono (below_box w _).size)); clear hc1 hb1 hsz)
        refine (J1.out _ _ (HR.out.below HB1.out) HC1.out).mono ?_
        rintro e w2 ⟨v2, rfl, hc2, hb2⟩
        have e4 : w2.cell? ⟨w.heap.size, 1, none⟩ = some (.int .i64 c) := (hb2.cell (p := ⟨w.heap.size, 1, none⟩) HSZ.out).trans e1
        have HC2 := Lib.hid hc2
        have HB2 := Lib.hid (HB1.out.trans (hb2.mono HB1.out.size))
        clear hc2 hb2 e1 e2 e3
        go_wp2
        go_ret2
        exact ⟨_, by rw [Int.natCast_add]; rfl, HC2.out, HB2.out⟩
      · rw [if_pos rfl] at I1
        have J1 := Lib.hid I1
        clear I1
        go_enter Try.func48, Try.ntmps48
        go_wp2_with ((fail_if_success (have q := HB1)); go_at_call 57; refine (J0.out _ _ (HC.out.below (below_box w _))).mono ?_; rintro e w' ⟨v', rfl, hc1, hb1⟩; have e1 : w'.cell? ⟨w.heap.size, 1, none⟩ = some (.int .i64 c) := (hb1.cell (p := ⟨w.heap.size, 1, none⟩) (by simp)).trans (by go_simp); have e2 : w'.cell? ⟨w.heap.size, 2, none⟩ = some (.int .i64 x) := (hb1.cell (p := ⟨w.heap.size, 2, none⟩) (by simp)).trans (by go_simp); have e3 : w'.cell? ⟨w.heap.size, 3, none⟩ = some (.int .i64 y) := (hb1.cell (p := ⟨w.heap.size, 3, none⟩) (by simp)).trans (by go_simp); have hsz : w.heap.size < w'.heap.size := Nat.lt_of_lt_of_le (by simp) hb1.size; have HSZ := Lib.hid hsz; have HC1 := Lib.hid hc1; have HB1 := Lib.hid ((below_box w _).trans (hb1.mono (below_box w _).size)); clear hc1 hb1 hsz)
        refine (J1.out _ _ (HR.out.below HB1.out) HC1.out).mono ?_
        rintro e w2 ⟨v2, rfl, hc2, hb2⟩
        have e4 : w2.cell? ⟨w.heap.size, 1, none⟩ = some (.int .i64 c) := (hb2.cell (p := ⟨w.heap.size, 1, none⟩) HSZ.out).trans e1
        have HC2 := Lib.hid hc2
        have HB2 := Lib.hid (HB1.out.trans (hb2.mono HB1.out.size))
        clear hc2 hb2 e1 e2 e3
        go_wp2
        go_ret2
        exact ⟨_, by rw [Int.natCast_add]; rfl, HC2.out, HB2.out⟩
    | loop c x m h h1 h9 ha hm =>
      obtain ⟨b, off, rfl, hb0, n0, n1, n2, n3, n4⟩ := rowN_at HR.out hi h
      have hc6 := hw6
      rw [wc8_loop h ha, if_pos rfl] at hc6
      have HE := rn8_loop h ha cs
      have BT := (rn8_bounds hv i hi cs).2
      rw [HE] at BT
      have J0 : ∀ v w, ChF w v cs → Calls Try.prog 57 #[v, .int .i64 ((m : Int) + 1)] w fun e w' => ∃ v', e = .returned (.tuple #[.int .i64 ((tk8 (m + 1) cs).1 : Nat), v']) ∧ ChF w' v' (tk8 (m + 1) cs).2 ∧ Below w.heap.size w w' := fun v w hc => l8Take_any v cs (m + 1) (by omega) (by omega) w hc
      have hlt := tk8_lt (show 1 ≤ m + 1 by omega) cs
      obtain ⟨T, hT⟩ : ∃ T, T = tk8 (m + 1) cs := ⟨_, rfl⟩
      rw [← hT] at J0 HE hlt BT
      obtain ⟨t1, t2⟩ := T
      simp only at HE hlt BT
      have hx6 : 1 ≤ t1 → wc8 true ps x ≤ 600 := by
        intro ht
        have h2 : 1 * (c + wc8 true ps x) ≤ m * (c + wc8 true ps x) := Nat.mul_le_mul_right _ (by omega)
        omega
      have I1 : 1 ≤ t1 → _ := fun ht v cs w => IH.out x ha (by omega) (hx6 ht) v cs w
      have BI : ∀ q s, s.1 ≤ (itr8 (rn8 ps x) c q s).1 := fun q s => by
        have := (itr8_cost (c := c) (rn8_bounds hv x (by omega)) q s).1
        omega
      obtain ⟨f, hf⟩ : ∃ f, f = rn8 ps x := ⟨_, rfl⟩
      rw [← hf] at I1 BI HE BT
      rw [HE]
      obtain ⟨Z, hZ⟩ : ∃ Z, Z = itr8 f c t1 (c, t2) := ⟨_, rfl⟩
      rw [← hZ] at BT ⊢
      obtain ⟨z1, z2⟩ := Z
      have B3 : z1 ≤ 600 := by simp only at BT; omega
      have J0 := Lib.hid J0
      have J1 := Lib.hid I1
      have HI := Lib.hid BI
      have HZ := Lib.hid hZ.symm
      have HV := Lib.hid hv
      clear h hv hw6 hc6 hf hT HE BT IH BI hZ hx6 I1
      go_enter Try.func48, Try.ntmps48
      go_wp2_with ((fail_if_success (have q := HB1)); go_at_call 57; refine (J0.out _ _ (HC.out.below (below_box w _))).mono ?_; rintro e w' ⟨v', rfl, hc1, hb1⟩; have e1 : w'.cell? ⟨w.heap.size, 1, none⟩ = some (.int .i64 c) := (hb1.cell (p := ⟨w.heap.size, 1, none⟩) (by simp)).trans (by go_simp); have e2 : w'.cell? ⟨w.heap.size, 2, none⟩ = some (.int .i64 x) := (hb1.cell (p := ⟨w.heap.size, 2, none⟩) (by simp)).trans (by go_simp); have hsz : w.heap.size < w'.heap.size := Nat.lt_of_lt_of_le (by simp) hb1.size; have HSZ := Lib.hid hsz; have HC1 := Lib.hid hc1; have HB1 := Lib.hid ((below_box w _).trans (hb1.mono (below_box w _).size)); clear hc1 hb1 hsz)
      have E1 := Lib.hid e1
      have E2 := Lib.hid e2
      clear e1 e2
      go_loopg [19, 20, 21] t1 (fun q z y z' wr => ∃ s j rest, q + j = t1 ∧ y = .int .i64 (s : Nat) ∧ z' = .int .i64 (j : Nat) ∧ ChF wr z rest ∧ itr8 f c q (s, rest) = (z1, z2) ∧ Below w.heap.size w wr ∧ wr.cell? ⟨w.heap.size, 1, none⟩ = some (.int .i64 c) ∧ wr.cell? ⟨w.heap.size, 2, none⟩ = some (.int .i64 x) ∧ w.heap.size < wr.heap.size)
      case atStart => exact ⟨c, 0, t2, rfl, rfl, rfl, HC1.out, HZ.out, HB1.out, E1.out, E2.out, HSZ.out⟩
      case round =>
        obtain ⟨s, j, rest, hq, rfl, rfl, hcz, hit, hbz, g1, g2, gsz⟩ := hrel
        have HQ := Lib.hid hq
        have HCZ := Lib.hid hcz
        have HBZ := Lib.hid hbz
        have HGS := Lib.hid gsz
        by_cases hlt2 : j < t1
        · have K1 := fun v w => J1.out (by omega) v rest w
          obtain ⟨X, hX⟩ : ∃ X, X = f rest := ⟨_, rfl⟩
          have hit2 : itr8 f c (gk - 1) (s + c + X.1, X.2) = (z1, z2) := by
            rw [← hit, hX]
            conv => rhs; rw [show gk = (gk - 1) + 1 by omega]
            rfl
          rw [← hX] at K1
          have hle := HI.out (gk - 1) (s + c + X.1, X.2)
          rw [hit2] at hle
          obtain ⟨x1, x2⟩ := X
          have B4 : s + c + x1 ≤ 600 := by simp only at hle; omega
          have HIT := Lib.hid hit2
          have HK := Lib.hid K1
          clear hq hcz hit hbz gsz hX hle hit2 K1
          go_wp2_with ((fail_if_success (have q := HB9)); go_at_call 48; refine (HK.out _ _ (HR.out.below HBZ.out) HCZ.out).mono ?_; rintro e w2 ⟨v2, rfl, hc2, hb2⟩; have e1 : w2.cell? ⟨w.heap.size, 1, none⟩ = some (.int .i64 c) := (hb2.cell (p := ⟨w.heap.size, 1, none⟩) HGS.out).trans g1; have e2 : w2.cell? ⟨w.heap.size, 2, none⟩ = some (.int .i64 x) := (hb2.cell (p := ⟨w.heap.size, 2, none⟩) HGS.out).trans g2; have hsz : w.heap.size < w2.heap.size := Nat.lt_of_lt_of_le HGS.out hb2.size; have HS9 := Lib.hid hsz; have HC9 := Lib.hid hc2; have HB9 := Lib.hid (HBZ.out.trans (hb2.mono HBZ.out.size)); clear hc2 hb2 hsz)
          go_roundg (gk - 1)
          case measure => have := HQ.out; omega
          case rel => exact ⟨s + c + x1, j + 1, x2, by have := HQ.out; omega, by go_num, by go_num, HC9.out, HIT.out, HB9.out, e1, e2, HS9.out⟩
        · have h0 : gk = 0 := by omega
          obtain rfl : j = t1 := by omega
          have HIT := Lib.hid (show (s, rest) = (z1, z2) by rw [← hit, h0]; rfl)
          clear hq hcz hit hbz gsz
          go_wp2
          go_ret2
          have hz := HIT.out
          simp only [Prod.mk.injEq] at hz
          exact ⟨_, by rw [← hz.1]; rfl, by rw [← hz.2]; exact HCZ.out, HBZ.out⟩

set_option maxRecDepth 100000 in
set_option maxHeartbeats 2000000 in
/-- spec.RunProgram. -/
theorem specRunProgram_any (a : Option Addr) (cap : Nat) (ps : List N5) (v : Value) (cs : List Int) (w : World) (hr : RowN w a ps) (hc : ChF w v cs) (hn : ps.length ≤ 1099511627776) :
    Calls Try.prog 19 #[.slice a ps.length cap, v] w fun e w' => e = .returned (.int .i64 (ex8 ps cs)) ∧ Below w.heap.size w w' := by
  have HR := Lib.hid hr
  have HC := Lib.hid hc
  clear hr hc
  go_enter Try.func19, Try.ntmps19
  go_wp2_with fail
  refine (specProgramValid_any a cap ps w HR.out hn).mono ?_
  rintro e w1 ⟨rfl, b1⟩
  have B1 := Lib.hid b1
  have HR1 := Lib.hid (HR.out.below b1)
  have HC1 := Lib.hid (HC.out.below b1)
  clear b1
  cases hv : pvB ps with
  | false =>
    have HF := Lib.hid (show ex8 ps cs = -1 from if_neg (by rw [hv]; simp))
    clear hv
    go_wp2
    go_ret
    exact ⟨by rw [HF.out]; rfl, B1.out⟩
  | true =>
    obtain ⟨⟨hl1, hl2⟩, hpv, -⟩ := pv_iff.1 hv
    have HPV := Lib.hid hpv
    have H6 := Lib.hid (pv_cst hv)
    obtain ⟨L, hL⟩ : ∃ L : Nat, L + 1 = ps.length := ⟨ps.length - 1, by omega⟩
    have J := fun (w : World) hr hc => l8Run_any a cap ps hpv (by omega) (ps.length - 1) (by omega) (pv_cst hv) v cs w hr hc
    have HF : ex8 ps cs = _ := if_pos hv
    rw [show ps.length - 1 = L by omega] at J HF
    obtain ⟨V, hV⟩ : ∃ V, V = rn8 ps L cs := ⟨_, rfl⟩
    rw [← hV] at J HF
    obtain ⟨v1, v2⟩ := V
    have HJ := Lib.hid J
    have HF := Lib.hid HF
    have hw : IntKind.i64.wrap ((ps.length : Int) - 1) = (L : Int) := by rw [IntWalk.i64_in _ (by omega)]; omega
    clear hv hpv hV J hL
    go_wp2_with fail
    refine (HJ.out _ HR1.out HC1.out).mono ?_
    rintro e w2 ⟨v9, rfl, hc2, b2⟩
    have HB2 := Lib.hid (B1.out.trans (b2.mono B1.out.size))
    clear hc2 b2
    go_wp2
    go_ret
    exact ⟨by rw [HF.out]; rfl, HB2.out⟩

end Go.Proofs.Ytlcdmjcikbgnpaa
