/- Contracts of spec.l6Held, spec.l6System, spec.l6Best and spec.RunResources. Conditions: the slices hold what is said; their lengths are at most 2^40. -/
import Derived.Test.YtlagghoohloklaaSrpAll
import Derived.Test.YtlagghoohloklaaSecSpec
import Derived.Test.YtlagghoohloklaaRunAll
import Derived.Test.YtlagghoohloklaaSecImpl
import Derived.StillTailTactics
import Derived.Test.YtlagghoohloklaaPoolAll
namespace Go.Proofs.Ytlagghoohloklaa
open Go.RowKit Go.Deep

/-- Does the section hold? -/
def hdB (a b d x : Nat) : Bool := decide (0 < b ∧ a < d ∧ d < a + b ∧ d < x)

/-- spec.l6Held. -/
theorem l6Held_any (a b r d x : Nat) (w : World) (ha : a ≤ 1000) (hb : b ≤ 1000) :
    Calls Try.prog 100 #[.agg #[.int .i64 (a : Int), .int .i64 (b : Int), .int .i64 (r : Int)], .int .i64 (d : Int), .int .i64 (x : Int)] w fun e w' =>
      e = .returned (.bool (hdB a b d x)) ∧ Below w.heap.size w w' := by
  go_enter Try.func100, Try.ntmps100
  go_wp2
  all_goals (go_ret; exact ⟨ret_bool (by simp only [hdB]; rw [eq_comm]; first | (apply decide_eq_decide.2; omega) | (apply decide_eq_false; omega) | (apply decide_eq_true; omega)), below_box _ _⟩)

set_option maxRecDepth 100000 in
set_option maxHeartbeats 4000000 in
/-- spec.l6System. -/
theorem l6System_any (a sa ja da : Option Addr) (cap scap jcap dcap : Nat) (ts ss : List T3) (js : List J4) (l : Nat → Nat) (w : World) (hr : Row w a ts) (hs : Row w sa ss) (hj : RowJ w ja js) (hd : IntF w da js.length fun i => ((jex js i - l i : Nat) : Int)) (hok : okR ts ss js = true) (hl : ∀ i, i < js.length → l i ≤ jex js i) :
    Calls Try.prog 54 #[.slice a ts.length cap, .slice sa ss.length scap, .slice ja js.length jcap, .slice da js.length dcap] w fun e w' =>
      e = .returned (.int .i64 ((srpP ts ss js).sys l js.length : Nat)) ∧ Below w.heap.size w w' := by
  have HR := Lib.hid hr
  have HS := Lib.hid hs
  have HJ := Lib.hid hj
  have HD := Lib.hid hd
  have HSC := Lib.hid (okR_iff.1 hok).1
  have HLEG := Lib.hid (okR_iff.1 hok).2
  have HLE := Lib.hid hl
  have h60 := (legB_iff.1 (okR_iff.1 hok).2).2.1
  have hl5 := (sv_all (scB_iff.1 (okR_iff.1 hok).1).1).2
  have HLEN := Lib.hid (scB_iff.1 (okR_iff.1 hok).1).2.1
  have hls5 : ss.length ≤ 5 := by have := HLEN.out; omega
  clear hr hs hj hd hok hl
  go_enter Try.func54, Try.ntmps54
  go_wp2
  go_loopg [9, 10] js.length (fun m c i wr => ∃ k : Nat, m + k = js.length ∧ c = .int .i64 ((srpP ts ss js).sys l k : Nat) ∧ i = .int .i64 k ∧ Below w.heap.size w wr)
  case atStart => exact ⟨0, rfl, rfl, rfl, Below.refl _ _⟩
  case round =>
    obtain ⟨k, hk, rfl, rfl, B⟩ := hrel
    have HK := Lib.hid hk
    have hkk : k ≤ js.length := by omega
    have HB := Lib.hid B
    clear hk B
    have h13 := (srpP ts ss js).sys_13 l k
    by_cases hlt : k < js.length
    · have hnat := leg_nat HLEG.out hlt
      have hlk := HLE.out k hlt
      have hidn : jid js k < ts.length := hnat.1
      have hids : jid js k < ss.length := by have := HLEN.out; omega
      have hsec := sc_nat HSC.out hidn
      obtain ⟨bj, oj, rfl, hbj, x0, -, -, x3⟩ := (HJ.out.below HB.out) k hlt
      obtain ⟨bs, os, rfl, hbs, y0, y1, y2⟩ := (HS.out.below HB.out).tk hids
      obtain ⟨bd, od, rfl, hbd, z0⟩ := (HD.out.below HB.out) k hlt
      simp only at z0
      rw [hnat.2.2.2.2.2.1] at x0
      rw [hnat.2.2.2.2.2.2.2.2] at x3
      rw [hsec.1] at y0
      rw [hsec.2.1] at y1
      rw [hsec.2.2.1] at y2
      have HSTEP := Lib.hid (show (srpP ts ss js).sys l (k + 1) = if (srpP ts ss js).held l k then min ((srpP ts ss js).sys l k) (ce ts ss (srs ss (jid js k))) else (srpP ts ss js).sys l k from rfl)
      have HHELD := Lib.hid (show (srpP ts ss js).held l k ↔ hdB (sst ss (jid js k)) (sln ss (jid js k)) (jex js k - l k) (jex js k) = true by
        unfold Srp.held hdB
        simp only [decide_eq_true_eq]
        show 0 < sln ss (jid js k) ∧ sst ss (jid js k) < jex js k - l k ∧ jex js k - l k < sst ss (jid js k) + sln ss (jid js k) ∧ 0 < l k ↔ _
        omega)
      have hc13 := ceN_13 ts ss (srs ss (jid js k)) ts.length
      have HCE := Lib.hid (fun W (hB : Below wr.heap.size wr W) => l6Ceiling_any a (some ⟨bs, os, none⟩) cap scap (srs ss (jid js k)) ts ss W ((HR.out.below HB.out).below hB) ((HS.out.below HB.out).below hB) HSC.out)
      obtain ⟨I, hI⟩ : ∃ I, I = jid js k := ⟨_, rfl⟩
      rw [← hI] at x0 y0 y1 y2 HSTEP HHELD hc13 HCE hids hsec
      obtain ⟨X, hX⟩ : ∃ X, X = jex js k := ⟨_, rfl⟩
      obtain ⟨T, hT⟩ : ∃ T, T = sst ss I := ⟨_, rfl⟩
      obtain ⟨L, hL⟩ : ∃ L, L = sln ss I := ⟨_, rfl⟩
      obtain ⟨S, hS⟩ : ∃ S, S = srs ss I := ⟨_, rfl⟩
      obtain ⟨Q, hQ⟩ : ∃ Q, Q = (srpP ts ss js).sys l k := ⟨_, rfl⟩
      obtain ⟨E, hE⟩ : ∃ E, E = ce ts ss S := ⟨_, rfl⟩
      have hE13 : E ≤ 13 := by rw [hE, hS]; exact hc13
      have hT8 : T ≤ 8 := by omega
      have hL8 : L ≤ 8 := by omega
      rw [← hX] at x3 z0 HHELD
      rw [← hT] at y0 HHELD
      rw [← hL] at y1 HHELD
      rw [← hS] at y2 HSTEP HCE
      rw [← hE] at HSTEP HCE
      rw [← hQ] at h13 HSTEP ⊢
      obtain ⟨DD, hDD⟩ : ∃ DD, DD = X - l k := ⟨_, rfl⟩
      rw [← hDD] at z0 HHELD
      have hI0 : (0 : Int) ≤ I := by omega
      have hI1 : (I : Int) < ss.length := by omega
      have hk0 : (0 : Int) ≤ k := by omega
      have hk1 : (k : Int) < js.length := by omega
      clear hnat hsec hI hX hT hL hS hQ hE hDD hc13 hlk
      have b2 := below_box wr (.cells #[.int .i64 (T : Int), .int .i64 (L : Int), .int .i64 (S : Int)] 39)
      obtain ⟨W, hW⟩ : ∃ W, W = wr.alloc (.cells #[.int .i64 (T : Int), .int .i64 (L : Int), .int .i64 (S : Int)] 39) := ⟨_, rfl⟩
      rw [← hW] at b2
      have u0 : W.cell? ⟨wr.heap.size, 0, none⟩ = some (.int .i64 (T : Int)) := by rw [hW]; go_simp
      have u1 : W.cell? ⟨wr.heap.size, 1, none⟩ = some (.int .i64 (L : Int)) := by rw [hW]; go_simp
      have u2 : W.cell? ⟨wr.heap.size, 2, none⟩ = some (.int .i64 (S : Int)) := by rw [hW]; go_simp
      have hsz : wr.heap.size < W.heap.size := by rw [hW]; simp
      have v3 := (b2.cell (p := ⟨bj, oj + k * 4 + 3, none⟩) hbj).trans x3
      have v0 := (b2.cell (p := ⟨bd, od + k, none⟩) hbd).trans z0
      have B2 := Lib.hid (And.intro b2 (HB.out.trans (b2.mono HB.out.size)))
      have HW := Lib.hid hW
      clear hW b2 x3 z0
      go_upto_region 6 with fail
      rw [← HW.out]
      refine wp_region_still_tail 10 (by kernel_rfl) (by kernel_rfl) ?_
      simp only [List.take_succ_cons, List.take_zero, List.drop_succ_cons, List.drop_zero]
      change wpStill _ _ W.drew (fun a' => wpList _ _ _ _ a' W.drew) _ _
      iterate 10 still_step
      refine wpStill_nil ?_
      go_wp2_with fail
      refine (l6Held_any T L S DD X _ (by omega) (by omega)).mono ?_
      rintro e w2 ⟨rfl, b3⟩
      have b4 : Below W.heap.size W w2 := (Below.refl W.heap.size W).drew.trans b3
      have q2 := (b4.cell (p := ⟨wr.heap.size, 2, none⟩) hsz).trans u2
      have B4 := Lib.hid (And.intro (B2.out.1.trans (b4.mono B2.out.1.size)) (B2.out.2.trans (b4.mono B2.out.2.size)))
      clear b3 b4 u0 u1 u2 v3 v0 x0 y0 y1 y2
      cases hh : hdB T L DD X with
      | false =>
        have HN := Lib.hid (show (srpP ts ss js).sys l (k + 1) = Q by rw [HSTEP.out, if_neg (fun h => by rw [HHELD.out.1 h] at hh; simp at hh)])
        clear hh
        go_wp2
        go_roundg (gk - 1)
        case measure => have := HK.out; omega
        case rel => exact ⟨k + 1, by have := HK.out; omega, by rw [HN.out], by go_num, B4.out.2⟩
      | true =>
        have HN := Lib.hid (show (srpP ts ss js).sys l (k + 1) = min Q E by rw [HSTEP.out, if_pos (HHELD.out.2 hh)])
        clear hh
        go_wp2_with fail
        refine (HCE.out _ B4.out.1).mono ?_
        rintro e w3 ⟨rfl, rfl⟩
        by_cases hm : E < Q
        · have hm' : (E : Int) < Q := by omega
          have HN2 := Lib.hid (show (srpP ts ss js).sys l (k + 1) = E by rw [HN.out]; omega)
          go_wp2
          go_roundg (gk - 1)
          case measure => have := HK.out; omega
          case rel => exact ⟨k + 1, by have := HK.out; omega, by rw [HN2.out], by go_num, B4.out.2⟩
        · have hm' : ¬ (E : Int) < Q := by omega
          have HN2 := Lib.hid (show (srpP ts ss js).sys l (k + 1) = Q by rw [HN.out]; omega)
          go_wp2
          go_roundg (gk - 1)
          case measure => have := HK.out; omega
          case rel => exact ⟨k + 1, by have := HK.out; omega, by rw [HN2.out], by go_num, B4.out.2⟩
    · obtain rfl : k = js.length := by omega
      go_wp2
      go_ret
      exact ⟨rfl, HB.out⟩

/-- Of the work that is left, what has been begun. -/
def stL (js : List J4) (l : Nat → Nat) : Nat → Nat := fun i => if l i < jex js i then l i else 0
def pickC (ts : List T3) (js : List J4) (l : Nat → Nat) (c now : Nat) : Option Nat := match best (jrel js) l (jdl js) now js.length with
  | none => none
  | some b => if l b = jex js b ∧ c ≤ tdl ts (jid js b) then best (jrel js) (stL js l) (jdl js) now js.length else some b

set_option maxRecDepth 100000 in
set_option maxHeartbeats 8000000 in
/-- spec.l6Best. -/
theorem l6Best_any (a ja da : Option Addr) (cap jcap dcap c now : Nat) (ts : List T3) (js : List J4) (l : Nat → Nat) (w : World) (hr : Row w a ts) (hj : RowJ w ja js) (hd : IntF w da js.length fun i => ((jex js i - l i : Nat) : Int)) (hleg : legB ts js = true) (hl : ∀ i, i < js.length → l i ≤ jex js i) (_hc : c ≤ 13) (_hnow : now ≤ 119) :
    Calls Try.prog 53 #[.slice a ts.length cap, .slice ja js.length jcap, .slice da js.length dcap, .int .i64 (c : Int), .int .i64 (now : Int)] w fun e w' =>
      e = .returned (.int .i64 (optI (pickC ts js l c now))) ∧ Below w.heap.size w w' := by
  have HR := Lib.hid hr
  have HJ := Lib.hid hj
  have HDN := Lib.hid hd
  have HLEG := Lib.hid hleg
  have HLE := Lib.hid hl
  have h60 := (legB_iff.1 hleg).2.1
  have hl5 := (sv_all (legB_iff.1 hleg).1).2
  have HSV := Lib.hid (legB_iff.1 hleg).1
  clear hr hj hd hleg hl
  go_enter Try.func53, Try.ntmps53
  go_wp2
  go_loopg [11, 12, 13] js.length (fun m b s i wr => ∃ k : Nat, m + k = js.length ∧ b = .int .i64 (optI (best (jrel js) l (jdl js) now k)) ∧ s = .int .i64 (optI (best (jrel js) (stL js l) (jdl js) now k)) ∧ i = .int .i64 k ∧ Below w.heap.size w wr)
  case atStart => exact ⟨0, rfl, rfl, rfl, rfl, Below.refl _ _⟩
  case round =>
    obtain ⟨k, hk, rfl, rfl, rfl, B⟩ := hrel
    have HK := Lib.hid hk
    have hkk : k ≤ js.length := by omega
    have HB := Lib.hid B
    clear hk B
    by_cases hlt : k < js.length
    · have hnat := leg_nat HLEG.out hlt
      have hlk := HLE.out k hlt
      have hex8 : jex js k ≤ 8 := by have := tv_bd (tk_sv HSV.out hnat.1); omega
      have hdl131 : jdl js k ≤ 131 := by have := tv_bd (tk_sv HSV.out hnat.1); unfold tdl at hnat; omega
      obtain ⟨bj, oj, rfl, hbj, x0, x1, x2, x3⟩ := (HJ.out.below HB.out) k hlt
      obtain ⟨bd, od, rfl, hbd, z0⟩ := (HDN.out.below HB.out) k hlt
      simp only at z0
      rw [hnat.2.2.2.2.2.1] at x0
      rw [hnat.2.2.2.2.2.2.1] at x1
      rw [hnat.2.2.2.2.2.2.2.1] at x2
      rw [hnat.2.2.2.2.2.2.2.2] at x3
      obtain ⟨I, hI⟩ : ∃ I, I = jid js k := ⟨_, rfl⟩
      obtain ⟨R, hR⟩ : ∃ R, R = jrel js k := ⟨_, rfl⟩
      obtain ⟨D, hD⟩ : ∃ D, D = jdl js k := ⟨_, rfl⟩
      obtain ⟨X, hX⟩ : ∃ X, X = jex js k := ⟨_, rfl⟩
      obtain ⟨L, hL⟩ : ∃ L, L = l k := ⟨_, rfl⟩
      rw [← hI] at x0
      rw [← hR] at x1
      rw [← hD] at x2 hdl131
      rw [← hX] at x3 z0 hlk hex8
      rw [← hL] at z0 hlk
      have HD := Lib.hid hD
      have HX := Lib.hid hX
      have HL := Lib.hid hL
      have HRR := Lib.hid hR
      have hk0 : (0 : Int) ≤ k := by omega
      have hk1 : (k : Int) < js.length := by omega
      clear hnat hI hR hD hX hL
      have b2 := below_box wr (.cells #[.int .i64 (I : Int), .int .i64 (R : Int), .int .i64 (D : Int), .int .i64 (X : Int)] 41)
      obtain ⟨W, hW⟩ : ∃ W, W = wr.alloc (.cells #[.int .i64 (I : Int), .int .i64 (R : Int), .int .i64 (D : Int), .int .i64 (X : Int)] 41) := ⟨_, rfl⟩
      rw [← hW] at b2
      have u1 : W.cell? ⟨wr.heap.size, 1, none⟩ = some (.int .i64 (R : Int)) := by rw [hW]; go_simp
      have u2 : W.cell? ⟨wr.heap.size, 2, none⟩ = some (.int .i64 (D : Int)) := by rw [hW]; go_simp
      have u3 : W.cell? ⟨wr.heap.size, 3, none⟩ = some (.int .i64 (X : Int)) := by rw [hW]; go_simp
      have v0 := (b2.cell (p := ⟨bd, od + k, none⟩) hbd).trans z0
      have HBX := Lib.hid (HB.out.trans (b2.mono HB.out.size))
      have HW := Lib.hid hW
      clear hW b2 z0
      go_upto_region 7 with fail
      rw [← HW.out]
      clear HW x0 x1 x2 x3
      by_cases hrn : R ≤ now
      · have hg1 : decide (now < R) = false := decide_eq_false (by omega)
        by_cases hl0 : 0 < L
        · have hg2 : ((X - L : Nat) == X) = false := beq_eq_false_iff_ne.2 (by omega)
          have hg3 : (((X - L : Nat) : Int) == (X : Int)) = false := beq_eq_false_iff_ne.2 (by omega)
          rw [HRR.out] at hrn
          rw [HL.out] at hl0
          have HBW := Lib.hid (fun n : Nat => below_drewN' HBX.out n)
          cases hB : best (jrel js) l (jdl js) now k with
          | none =>
            have HNB := Lib.hid (show best (jrel js) l (jdl js) now (k + 1) = some k from best_first hB hrn hl0)
            clear hB
            rw [show optI (none : Option Nat) = -1 from rfl]
            by_cases hs : L < X
            · have hq1 : decide (0 < X - L) = true := decide_eq_true (by omega)
              have hq2 : (0 : Int) < ((X - L : Nat) : Int) := by omega
              cases hS : best (jrel js) (stL js l) (jdl js) now k with
              | none =>
                have HNS := Lib.hid (show best (jrel js) (stL js l) (jdl js) now (k + 1) = some k from best_first hS hrn (by unfold stL; rw [if_pos (by rw [← HX.out, ← HL.out]; exact hs)]; exact hl0))
                clear hS hs
                rw [show optI (none : Option Nat) = -1 from rfl]
                go_wp2
                go_quiet (fail)
                go_wp2
                go_quiet (fail)
                go_wp2
                go_quiet (fail)
                go_wp2
                go_roundg (gk - 1)
                case measure => have := HK.out; omega
                case rel => exact ⟨k + 1, by have := HK.out; omega, by rw [HNB.out]; rfl, by rw [HNS.out]; rfl, by go_num, HBW.out _⟩
              | some s =>
                have hsn : s < js.length := by have := (best_some hS).1; omega
                obtain ⟨bs, os, es, -, -, -, xs, -⟩ := (HJ.out.below HBX.out) s hsn
                simp only [Option.some.injEq, Addr.mk.injEq, and_true] at es
                obtain ⟨rfl, rfl⟩ := es
                rw [(leg_nat HLEG.out hsn).2.2.2.2.2.2.2.1] at xs
                obtain ⟨Z, hZ⟩ : ∃ Z, Z = jdl js s := ⟨_, rfl⟩
                rw [← hZ] at xs
                have hs0 : ¬ (s : Int) < 0 := by omega
                have hs1 : (0 : Int) ≤ s := by omega
                have hs2 : (s : Int) < js.length := by omega
                have hs3 : decide ((s : Int) < 0) = false := decide_eq_false (by omega)
                by_cases hlt3 : D < Z
                · have hd2 : decide (D < Z) = true := decide_eq_true hlt3
                  have HNS := Lib.hid (show best (jrel js) (stL js l) (jdl js) now (k + 1) = some k from best_yes hS hrn (by unfold stL; rw [if_pos (by rw [← HX.out, ← HL.out]; exact hs)]; exact hl0) (by rw [← HD.out, ← hZ]; exact hlt3))
                  clear hS hs hZ hlt3
                  rw [show optI (some s) = (s : Int) from rfl]
                  go_wp2
                  go_quiet (fail)
                  go_wp2
                  go_quiet (fail)
                  go_wp2
                  go_quiet (fail)
                  go_wp2
                  go_roundg (gk - 1)
                  case measure => have := HK.out; omega
                  case rel => exact ⟨k + 1, by have := HK.out; omega, by rw [HNB.out]; rfl, by rw [HNS.out]; rfl, by go_num, HBW.out _⟩
                · have hd2 : decide (D < Z) = false := decide_eq_false hlt3
                  have HNS := Lib.hid (show best (jrel js) (stL js l) (jdl js) now (k + 1) = some s from best_no hS (by rw [← HD.out, ← hZ]; exact hlt3))
                  clear hS hs hZ hlt3
                  rw [show optI (some s) = (s : Int) from rfl]
                  go_wp2
                  go_quiet (fail)
                  go_wp2
                  go_quiet (fail)
                  go_wp2
                  go_quiet (fail)
                  go_wp2
                  go_roundg (gk - 1)
                  case measure => have := HK.out; omega
                  case rel => exact ⟨k + 1, by have := HK.out; omega, by rw [HNB.out]; rfl, by rw [HNS.out]; rfl, by go_num, HBW.out _⟩
            · have hq1 : decide (0 < X - L) = false := decide_eq_false (by omega)
              have hq2 : ¬ (0 : Int) < ((X - L : Nat) : Int) := by omega
              have HNS := Lib.hid (show best (jrel js) (stL js l) (jdl js) now (k + 1) = best (jrel js) (stL js l) (jdl js) now k from best_skip (by unfold stL; rw [if_neg (by rw [← HX.out, ← HL.out]; exact hs)]; omega))
              obtain ⟨so, hso⟩ : ∃ so, so = best (jrel js) (stL js l) (jdl js) now k := ⟨_, rfl⟩
              rw [← hso] at HNS ⊢
              clear hso hs
              go_wp2
              go_quiet (fail)
              go_wp2
              go_quiet (fail)
              go_wp2
              go_quiet (fail)
              go_wp2
              go_roundg (gk - 1)
              case measure => have := HK.out; omega
              case rel => exact ⟨k + 1, by have := HK.out; omega, by rw [HNB.out]; rfl, by rw [HNS.out], by go_num, HBW.out _⟩
          | some b =>
            have hbn : b < js.length := by have := (best_some hB).1; omega
            obtain ⟨bb, ob, eb, -, -, -, xb, -⟩ := (HJ.out.below HBX.out) b hbn
            simp only [Option.some.injEq, Addr.mk.injEq, and_true] at eb
            obtain ⟨rfl, rfl⟩ := eb
            rw [(leg_nat HLEG.out hbn).2.2.2.2.2.2.2.1] at xb
            obtain ⟨Y, hY⟩ : ∃ Y, Y = jdl js b := ⟨_, rfl⟩
            rw [← hY] at xb
            have hb0 : ¬ (b : Int) < 0 := by omega
            have hb1 : (0 : Int) ≤ b := by omega
            have hb2 : (b : Int) < js.length := by omega
            have hb3 : decide ((b : Int) < 0) = false := decide_eq_false (by omega)
            by_cases hlt2 : D < Y
            · have hd1 : decide (D < Y) = true := decide_eq_true hlt2
              have HNB := Lib.hid (show best (jrel js) l (jdl js) now (k + 1) = some k from best_yes hB hrn hl0 (by rw [← HD.out, ← hY]; exact hlt2))
              clear hB hY hlt2
              rw [show optI (some b) = (b : Int) from rfl]
              by_cases hs : L < X
              · have hq1 : decide (0 < X - L) = true := decide_eq_true (by omega)
                have hq2 : (0 : Int) < ((X - L : Nat) : Int) := by omega
                cases hS : best (jrel js) (stL js l) (jdl js) now k with
                | none =>
                  have HNS := Lib.hid (show best (jrel js) (stL js l) (jdl js) now (k + 1) = some k from best_first hS hrn (by unfold stL; rw [if_pos (by rw [← HX.out, ← HL.out]; exact hs)]; exact hl0))
                  clear hS hs
                  rw [show optI (none : Option Nat) = -1 from rfl]
                  go_wp2
                  go_quiet (fail)
                  go_wp2
                  go_quiet (fail)
                  go_wp2
                  go_quiet (fail)
                  go_wp2
                  go_roundg (gk - 1)
                  case measure => have := HK.out; omega
                  case rel => exact ⟨k + 1, by have := HK.out; omega, by rw [HNB.out]; rfl, by rw [HNS.out]; rfl, by go_num, HBW.out _⟩
                | some s =>
                  have hsn : s < js.length := by have := (best_some hS).1; omega
                  obtain ⟨bs, os, es, -, -, -, xs, -⟩ := (HJ.out.below HBX.out) s hsn
                  simp only [Option.some.injEq, Addr.mk.injEq, and_true] at es
                  obtain ⟨rfl, rfl⟩ := es
                  rw [(leg_nat HLEG.out hsn).2.2.2.2.2.2.2.1] at xs
                  obtain ⟨Z, hZ⟩ : ∃ Z, Z = jdl js s := ⟨_, rfl⟩
                  rw [← hZ] at xs
                  have hs0 : ¬ (s : Int) < 0 := by omega
                  have hs1 : (0 : Int) ≤ s := by omega
                  have hs2 : (s : Int) < js.length := by omega
                  have hs3 : decide ((s : Int) < 0) = false := decide_eq_false (by omega)
                  by_cases hlt3 : D < Z
                  · have hd2 : decide (D < Z) = true := decide_eq_true hlt3
                    have HNS := Lib.hid (show best (jrel js) (stL js l) (jdl js) now (k + 1) = some k from best_yes hS hrn (by unfold stL; rw [if_pos (by rw [← HX.out, ← HL.out]; exact hs)]; exact hl0) (by rw [← HD.out, ← hZ]; exact hlt3))
                    clear hS hs hZ hlt3
                    rw [show optI (some s) = (s : Int) from rfl]
                    go_wp2
                    go_quiet (fail)
                    go_wp2
                    go_quiet (fail)
                    go_wp2
                    go_quiet (fail)
                    go_wp2
                    go_roundg (gk - 1)
                    case measure => have := HK.out; omega
                    case rel => exact ⟨k + 1, by have := HK.out; omega, by rw [HNB.out]; rfl, by rw [HNS.out]; rfl, by go_num, HBW.out _⟩
                  · have hd2 : decide (D < Z) = false := decide_eq_false hlt3
                    have HNS := Lib.hid (show best (jrel js) (stL js l) (jdl js) now (k + 1) = some s from best_no hS (by rw [← HD.out, ← hZ]; exact hlt3))
                    clear hS hs hZ hlt3
                    rw [show optI (some s) = (s : Int) from rfl]
                    go_wp2
                    go_quiet (fail)
                    go_wp2
                    go_quiet (fail)
                    go_wp2
                    go_quiet (fail)
                    go_wp2
                    go_roundg (gk - 1)
                    case measure => have := HK.out; omega
                    case rel => exact ⟨k + 1, by have := HK.out; omega, by rw [HNB.out]; rfl, by rw [HNS.out]; rfl, by go_num, HBW.out _⟩
              · have hq1 : decide (0 < X - L) = false := decide_eq_false (by omega)
                have hq2 : ¬ (0 : Int) < ((X - L : Nat) : Int) := by omega
                have HNS := Lib.hid (show best (jrel js) (stL js l) (jdl js) now (k + 1) = best (jrel js) (stL js l) (jdl js) now k from best_skip (by unfold stL; rw [if_neg (by rw [← HX.out, ← HL.out]; exact hs)]; omega))
                obtain ⟨so, hso⟩ : ∃ so, so = best (jrel js) (stL js l) (jdl js) now k := ⟨_, rfl⟩
                rw [← hso] at HNS ⊢
                clear hso hs
                go_wp2
                go_quiet (fail)
                go_wp2
                go_quiet (fail)
                go_wp2
                go_quiet (fail)
                go_wp2
                go_roundg (gk - 1)
                case measure => have := HK.out; omega
                case rel => exact ⟨k + 1, by have := HK.out; omega, by rw [HNB.out]; rfl, by rw [HNS.out], by go_num, HBW.out _⟩
            · have hd1 : decide (D < Y) = false := decide_eq_false hlt2
              have HNB := Lib.hid (show best (jrel js) l (jdl js) now (k + 1) = some b from best_no hB (by rw [← HD.out, ← hY]; exact hlt2))
              clear hB hY hlt2
              rw [show optI (some b) = (b : Int) from rfl]
              by_cases hs : L < X
              · have hq1 : decide (0 < X - L) = true := decide_eq_true (by omega)
                have hq2 : (0 : Int) < ((X - L : Nat) : Int) := by omega
                cases hS : best (jrel js) (stL js l) (jdl js) now k with
                | none =>
                  have HNS := Lib.hid (show best (jrel js) (stL js l) (jdl js) now (k + 1) = some k from best_first hS hrn (by unfold stL; rw [if_pos (by rw [← HX.out, ← HL.out]; exact hs)]; exact hl0))
                  clear hS hs
                  rw [show optI (none : Option Nat) = -1 from rfl]
                  go_wp2
                  go_quiet (fail)
                  go_wp2
                  go_quiet (fail)
                  go_wp2
                  go_quiet (fail)
                  go_wp2
                  go_roundg (gk - 1)
                  case measure => have := HK.out; omega
                  case rel => exact ⟨k + 1, by have := HK.out; omega, by rw [HNB.out]; rfl, by rw [HNS.out]; rfl, by go_num, HBW.out _⟩
                | some s =>
                  have hsn : s < js.length := by have := (best_some hS).1; omega
                  obtain ⟨bs, os, es, -, -, -, xs, -⟩ := (HJ.out.below HBX.out) s hsn
                  simp only [Option.some.injEq, Addr.mk.injEq, and_true] at es
                  obtain ⟨rfl, rfl⟩ := es
                  rw [(leg_nat HLEG.out hsn).2.2.2.2.2.2.2.1] at xs
                  obtain ⟨Z, hZ⟩ : ∃ Z, Z = jdl js s := ⟨_, rfl⟩
                  rw [← hZ] at xs
                  have hs0 : ¬ (s : Int) < 0 := by omega
                  have hs1 : (0 : Int) ≤ s := by omega
                  have hs2 : (s : Int) < js.length := by omega
                  have hs3 : decide ((s : Int) < 0) = false := decide_eq_false (by omega)
                  by_cases hlt3 : D < Z
                  · have hd2 : decide (D < Z) = true := decide_eq_true hlt3
                    have HNS := Lib.hid (show best (jrel js) (stL js l) (jdl js) now (k + 1) = some k from best_yes hS hrn (by unfold stL; rw [if_pos (by rw [← HX.out, ← HL.out]; exact hs)]; exact hl0) (by rw [← HD.out, ← hZ]; exact hlt3))
                    clear hS hs hZ hlt3
                    rw [show optI (some s) = (s : Int) from rfl]
                    go_wp2
                    go_quiet (fail)
                    go_wp2
                    go_quiet (fail)
                    go_wp2
                    go_quiet (fail)
                    go_wp2
                    go_roundg (gk - 1)
                    case measure => have := HK.out; omega
                    case rel => exact ⟨k + 1, by have := HK.out; omega, by rw [HNB.out]; rfl, by rw [HNS.out]; rfl, by go_num, HBW.out _⟩
                  · have hd2 : decide (D < Z) = false := decide_eq_false hlt3
                    have HNS := Lib.hid (show best (jrel js) (stL js l) (jdl js) now (k + 1) = some s from best_no hS (by rw [← HD.out, ← hZ]; exact hlt3))
                    clear hS hs hZ hlt3
                    rw [show optI (some s) = (s : Int) from rfl]
                    go_wp2
                    go_quiet (fail)
                    go_wp2
                    go_quiet (fail)
                    go_wp2
                    go_quiet (fail)
                    go_wp2
                    go_roundg (gk - 1)
                    case measure => have := HK.out; omega
                    case rel => exact ⟨k + 1, by have := HK.out; omega, by rw [HNB.out]; rfl, by rw [HNS.out]; rfl, by go_num, HBW.out _⟩
              · have hq1 : decide (0 < X - L) = false := decide_eq_false (by omega)
                have hq2 : ¬ (0 : Int) < ((X - L : Nat) : Int) := by omega
                have HNS := Lib.hid (show best (jrel js) (stL js l) (jdl js) now (k + 1) = best (jrel js) (stL js l) (jdl js) now k from best_skip (by unfold stL; rw [if_neg (by rw [← HX.out, ← HL.out]; exact hs)]; omega))
                obtain ⟨so, hso⟩ : ∃ so, so = best (jrel js) (stL js l) (jdl js) now k := ⟨_, rfl⟩
                rw [← hso] at HNS ⊢
                clear hso hs
                go_wp2
                go_quiet (fail)
                go_wp2
                go_quiet (fail)
                go_wp2
                go_quiet (fail)
                go_wp2
                go_roundg (gk - 1)
                case measure => have := HK.out; omega
                case rel => exact ⟨k + 1, by have := HK.out; omega, by rw [HNB.out]; rfl, by rw [HNS.out], by go_num, HBW.out _⟩
        · have hg2 : ((X - L : Nat) == X) = true := beq_iff_eq.2 (by omega)
          have hg3 : (((X - L : Nat) : Int) == (X : Int)) = true := beq_iff_eq.2 (by omega)
          have HNB := Lib.hid (show best (jrel js) l (jdl js) now (k + 1) = best (jrel js) l (jdl js) now k from best_skip (by rw [← HL.out]; omega))
          have HNS := Lib.hid (show best (jrel js) (stL js l) (jdl js) now (k + 1) = best (jrel js) (stL js l) (jdl js) now k from best_skip (by unfold stL; rw [← HL.out]; split <;> omega))
          obtain ⟨bo, hbo⟩ : ∃ bo, bo = best (jrel js) l (jdl js) now k := ⟨_, rfl⟩
          obtain ⟨so, hso⟩ : ∃ so, so = best (jrel js) (stL js l) (jdl js) now k := ⟨_, rfl⟩
          rw [← hbo] at HNB ⊢
          rw [← hso] at HNS ⊢
          clear hbo hso
          go_wp2
          go_quiet (fail)
          go_wp2
          go_roundg (gk - 1)
          case measure => have := HK.out; omega
          case rel => exact ⟨k + 1, by have := HK.out; omega, by rw [HNB.out], by rw [HNS.out], by go_num, below_drewN' HBX.out _⟩
      · have hg1 : decide (now < R) = true := decide_eq_true (by omega)
        have HNB := Lib.hid (show best (jrel js) l (jdl js) now (k + 1) = best (jrel js) l (jdl js) now k from best_skip (by rw [← HRR.out]; omega))
        have HNS := Lib.hid (show best (jrel js) (stL js l) (jdl js) now (k + 1) = best (jrel js) (stL js l) (jdl js) now k from best_skip (by rw [← HRR.out]; omega))
        obtain ⟨bo, hbo⟩ : ∃ bo, bo = best (jrel js) l (jdl js) now k := ⟨_, rfl⟩
        obtain ⟨so, hso⟩ : ∃ so, so = best (jrel js) (stL js l) (jdl js) now k := ⟨_, rfl⟩
        rw [← hbo] at HNB ⊢
        rw [← hso] at HNS ⊢
        clear hbo hso hrn
        go_wp2
        go_quiet (fail)
        go_wp2
        go_roundg (gk - 1)
        case measure => have := HK.out; omega
        case rel => exact ⟨k + 1, by have := HK.out; omega, by rw [HNB.out], by rw [HNS.out], by go_num, below_drewN' HBX.out _⟩
    · obtain rfl : k = js.length := by omega
      have hlt' : ¬ (js.length : Int) < js.length := by omega
      have HPC := Lib.hid (show pickC ts js l c now = match best (jrel js) l (jdl js) now js.length with
        | none => none
        | some b => if l b = jex js b ∧ c ≤ tdl ts (jid js b) then best (jrel js) (stL js l) (jdl js) now js.length else some b from rfl)
      cases hB : best (jrel js) l (jdl js) now js.length with
      | none =>
        have HP := Lib.hid (show pickC ts js l c now = none by rw [HPC.out, hB])
        clear hB
        obtain ⟨so, hso⟩ : ∃ so, so = best (jrel js) (stL js l) (jdl js) now js.length := ⟨_, rfl⟩
        rw [← hso]
        clear hso
        rw [show optI (none : Option Nat) = -1 from rfl]
        go_wp2
        go_ret
        exact ⟨ret_int (by rw [HP.out]; rfl), HB.out⟩
      | some b =>
        obtain ⟨hbn, -, hbl, -⟩ := best_some hB
        have hnat := leg_nat HLEG.out hbn
        have hlk := HLE.out b hbn
        obtain ⟨bj, oj, rfl, hbj, x0, -, -, -⟩ := (HJ.out.below HB.out) b hbn
        obtain ⟨bd, od, rfl, hbd, z0⟩ := (HDN.out.below HB.out) b hbn
        simp only at z0
        rw [hnat.2.2.2.2.2.1] at x0
        obtain ⟨bt, ot, rfl, hbt, -, y1, -⟩ := (HR.out.below HB.out).tk hnat.1
        have htd : (tk ts (jid js b)).2.1 = (tdl ts (jid js b) : Nat) := by have := tv_bd (tk_sv HSV.out hnat.1); unfold tdl; omega
        rw [htd] at y1
        have HP := Lib.hid (show pickC ts js l c now = if l b = jex js b ∧ c ≤ tdl ts (jid js b) then best (jrel js) (stL js l) (jdl js) now js.length else some b by rw [HPC.out, hB])
        have hI1 : jid js b < ts.length := hnat.1
        obtain ⟨I, hI⟩ : ∃ I, I = jid js b := ⟨_, rfl⟩
        rw [← hI] at x0 y1 HP hI1
        obtain ⟨G, hG⟩ : ∃ G, G = tdl ts I := ⟨_, rfl⟩
        rw [← hG] at y1 HP
        obtain ⟨so, hso⟩ : ∃ so, so = best (jrel js) (stL js l) (jdl js) now js.length := ⟨_, rfl⟩
        rw [← hso] at HP ⊢
        obtain ⟨X, hX⟩ : ∃ X, X = jex js b := ⟨_, rfl⟩
        obtain ⟨L, hL⟩ : ∃ L, L = l b := ⟨_, rfl⟩
        rw [← hX] at z0 HP hlk
        rw [← hL] at z0 HP hlk
        have hb0 : (0 : Int) ≤ b := by omega
        have hb1 : (b : Int) < js.length := by omega
        have hi0 : (0 : Int) ≤ I := by omega
        have hi1 : (I : Int) < ts.length := by omega
        clear hnat htd hI hG hso hX hL hB HPC hbl
        rw [show optI (some b) = (b : Int) from rfl]
        by_cases h1 : L = X
        · have hz : X - L = 0 := by omega
          rw [hz] at z0
          by_cases h2 : c ≤ G
          · have h2' : (c : Int) ≤ G := by omega
            have HP2 := Lib.hid (show pickC ts js l c now = so by rw [HP.out, if_pos ⟨h1, h2⟩])
            clear h1
            go_wp2
            go_ret
            exact ⟨ret_int (by rw [HP2.out]), HB.out⟩
          · have h2' : ¬ (c : Int) ≤ G := by omega
            have HP2 := Lib.hid (show pickC ts js l c now = some b by rw [HP.out, if_neg (fun h => h2 h.2)])
            clear h1
            go_wp2
            go_ret
            exact ⟨ret_int (by rw [HP2.out]; rfl), HB.out⟩
        · have hz1 : ((X - L : Nat) == 0) = false := beq_eq_false_iff_ne.2 (by omega)
          have hz2 : (((X - L : Nat) : Int) == 0) = false := beq_eq_false_iff_ne.2 (by omega)
          have HP2 := Lib.hid (show pickC ts js l c now = some b by rw [HP.out, if_neg (fun h => h1 h.1)])
          obtain ⟨Y, hY⟩ : ∃ Y, Y = X - L := ⟨_, rfl⟩
          rw [← hY] at z0 hz1 hz2
          clear h1 hY
          go_wp2
          go_ret
          exact ⟨ret_int (by rw [HP2.out]; rfl), HB.out⟩

end Go.Proofs.Ytlagghoohloklaa

namespace Go.Proofs.Ytlagghoohloklaa
open Go.RowKit Go.Deep

def lenRR (ts ss : List T3) (js : List J4) : Nat := if okR ts ss js = true then 120 else 0
def lenFR (ts ss : List T3) (js : List J4) : Nat := if okR ts ss js = true then js.length else 0
/-- The schedule with the stack resource policy, in two slices of its own; the zero value for invalid arguments. -/
def SrpSched (base : Nat) (ts ss : List T3) (js : List J4) (e : Ending) (w' : World) : Prop :=
  ∃ vr vf, e = .returned (.agg #[vr, vf]) ∧ OwnI w' base vr (lenRR ts ss js) (srpF ts ss js) ∧ OwnI w' base vf (lenFR ts ss js) (srpFin ts ss js) ∧ Apart vf vr
/-- The two fields of a schedule. -/
def outS (vr vf : Value) : Nat → Value
  | 0 => vr
  | _ => vf
theorem out0 {vr vf v : Value} (k : Nat) (hk : k < 2) : (if k = 0 then v else outS vr vf k) = outS v vf k := by
  match k, hk with
  | 0, _ => rfl
  | 1, _ => rfl
theorem out1 {vr vf v : Value} (k : Nat) (hk : k < 2) : (if k = 1 then v else outS vr vf k) = outS vr v k := by
  match k, hk with
  | 0, _ => rfl
  | 1, _ => rfl
def sL (B A : Nat) (vr : Value) (t : Nat) (fr : Nat → Int) (vf : Value) (nf : Nat) (ff : Nat → Int) (vd : Value) (n : Nat) (fd : Nat → Int) : List It :=
  [itB 30 2 B (outS (.slice none 0 0) (.slice none 0 0)), itB 30 2 A (outS vr vf), itN vr t fr, itN vf nf ff, itN vd n fd]
theorem ne_b {a b c : Nat} (h1 : a < b) (h2 : b ≤ c) : ¬ a = c := by omega

set_option maxRecDepth 100000 in
set_option maxHeartbeats 4000000 in
/-- spec.RunResources. -/
theorem specRunResources_any (a sa ja : Option Addr) (cap scap jcap : Nat) (ts ss : List T3) (js : List J4) (w : World) (hr : Row w a ts) (hs : Row w sa ss) (hj : RowJ w ja js) (hn : ts.length ≤ 1099511627776) (hsn : ss.length ≤ 1099511627776) (hjn : js.length ≤ 1099511627776) :
    Calls Try.prog 15 #[.slice a ts.length cap, .slice sa ss.length scap, .slice ja js.length jcap] w fun e w' =>
      SrpSched w.heap.size ts ss js e w' ∧ Below w.heap.size w w' := by
  obtain ⟨iI, hi, hz, hsz, hby⟩ := info_parts intInfo
  have HI := Lib.hid (And.intro hi (And.intro hz (And.intro hsz hby)))
  clear hi hz hsz hby
  have P0 := (PS.start w).addB 30 #[.slice none 0 0, .slice none 0 0] (outS (.slice none 0 0) (.slice none 0 0)) (by decide) (fun k hk => by
    match k, hk with
    | 0, _ => rfl
    | 1, _ => rfl)
  obtain ⟨W0, hW0⟩ : ∃ W0, W0 = w.alloc (.cells #[.slice none 0 0, .slice none 0 0] 30) := ⟨_, rfl⟩
  rw [← hW0] at P0
  have P0 := Lib.hid P0
  have HR := Lib.hid hr
  have HS := Lib.hid hs
  have HJ := Lib.hid hj
  have HW0 := Lib.hid hW0
  clear hr hs hj hW0
  by_cases hok : okR ts ss js = true
  · have HSC := Lib.hid (okR_iff.1 hok).1
    have HLEG := Lib.hid (okR_iff.1 hok).2
    have h60 := (legB_iff.1 (okR_iff.1 hok).2).2.1
    have HOK := Lib.hid hok
    clear hok
    go_enter Try.func15, Try.ntmps15
    go_wp2_with fail
    rw [← HW0.out]
    refine (specSectionsValid_any _ _ _ _ _ _ _ (HR.out.below P0.out.be) (HS.out.below P0.out.be) hn hsn).mono ?_
    rintro e w1 ⟨rfl, b1⟩
    rw [HSC.out]
    have P1 := Lib.hid (P0.out.below b1)
    clear b1
    go_wp2_with fail
    refine (specJobsLegal_any _ _ _ _ _ _ _ (HR.out.below P1.out.be) (HJ.out.below P1.out.be) hn hjn).mono ?_
    rintro e w2 ⟨rfl, b2⟩
    rw [HLEG.out]
    have P2 := Lib.hid (P1.out.below b2)
    clear b2
    have hmk := run_make_ints js.length hjn
    have P3 := (((P2.out.addB 30 #[.slice none 0 0, .slice none 0 0] (outS (.slice none 0 0) (.slice none 0 0)) (by decide) (fun k hk => by
      match k, hk with
      | 0, _ => rfl
      | 1, _ => rfl)).nilN (srpF ts ss js)).nilN (fun _ => -1))
    have P4 := Lib.hid (P3.addN (v := .slice (some ⟨w2.heap.size + 1, 0, none⟩) js.length js.length) (n := js.length) (f := dnF (srpP ts ss js).gen 0) (below_box _ (.cells (madeCells #[.int .i64 0] js.length) 3)) (by
      have h := made_own (w2.alloc (.cells #[.slice none 0 0, .slice none 0 0] 30)) js.length (dnF (srpP ts ss js).gen 0) (by unfold maxLen; omega) (fun k _ => by
        unfold dnF
        rw [show (srpP ts ss js).gen.left 0 k = (srpP ts ss js).gen.ex k from rfl, Nat.sub_self]
        rfl)
      simpa using h))
    clear P3 P0 P1 P2
    obtain ⟨A, hA⟩ : ∃ A, A = w2.heap.size := ⟨_, rfl⟩
    go_wp2
    rw [← hA] at P4 ⊢
    clear hA
    have P5 := Lib.hid (show PS w ((w2.alloc (.cells #[.slice none 0 0, .slice none 0 0] 30)).alloc (.cells (madeCells #[.int .i64 0] js.length) 3)) (sL w.heap.size A (.slice none 0 0) 0 (srpF ts ss js) (.slice none 0 0) 0 (fun _ => -1) (.slice (some ⟨A + 1, 0, none⟩) js.length js.length) js.length (dnF (srpP ts ss js).gen 0)) from P4.out)
    clear P4
    go_loopg [9] js.length (fun m z wr => ∃ (k : Nat) (vf : Value), m + k = js.length ∧ z = .int .i64 k ∧ PS w wr (sL w.heap.size A (.slice none 0 0) 0 (srpF ts ss js) vf k (fun _ => -1) (.slice (some ⟨A + 1, 0, none⟩) js.length js.length) js.length (dnF (srpP ts ss js).gen 0)))
    case atStart => exact ⟨0, _, by omega, rfl, P5.out⟩
    case round =>
      obtain ⟨k, vf, hk, rfl, hL⟩ := hrel
      have HK := Lib.hid hk
      have HL := Lib.hid hL
      have hkk : k ≤ js.length := by omega
      obtain ⟨fa, fcap, rfl⟩ := own_shape (hL.getN (j := 3) rfl)
      have y1 := hL.cell (j := 1) rfl 1 (by omega)
      simp only [outS] at y1
      clear hk hL P5
      by_cases hlt : k < js.length
      · have hk1 : (k : Int) < js.length := by omega
        go_wp2_with (at_builtin; refine wpList_append_at _ rfl (.tmp 34) (.tmp 35) 28 rfl w.heap.size 3 iI _ 1 8 Try.underlying28 HI.out.1 HI.out.2.1 HI.out.2.2.1 HI.out.2.2.2 rfl (by decide) _ k (vals (fun _ => -1) k) rfl ((HL.out.alloc _).getN (j := 3) rfl) ⟨wr.heap.size, 0, none⟩ 1 1 [.int .i64 (-1)] rfl rfl (news1 _ _ _) (one1 _) (by unfold maxLen; omega) (by omega) (HL.out.alloc _).sz (by decide) ?_; intro v1 u1 ho1 hg1 hp1 hn1; have L2 := Lib.hid ((HL.out.alloc _).pushN (j := 3) (f' := fun _ => -1) rfl ho1 (fun _ _ => rfl) rfl hg1 hp1); have y2 := L2.out.frz (j := 1) rfl 1; have y3 := L2.out.cell (j := 1) rfl 1 (by omega); have y4 := (L2.out.lt (j := 1) rfl).2; obtain ⟨a1, c1, rfl⟩ := own_shape ho1; clear ho1 hg1 hp1 hn1)
        have L3 := Lib.hid (L2.out.st (j := 1) (F' := outS (.slice none 0 0) (.slice a1 (k + 1) c1)) rfl 1 (by omega) (.slice a1 (k + 1) c1) out1)
        go_roundg (gk - 1)
        case measure => have := HK.out; omega
        case rel => exact ⟨k + 1, _, by have := HK.out; omega, by go_num, L3.out⟩
      · obtain rfl : k = js.length := by omega
        clear HK y1
        have HSO := Lib.hid (srp_ok HOK.out)
        have L1 := HL.out.congrN (j := 3) (f' := (srpP ts ss js).gen.fin 0) rfl (fun i _ => rfl)
        have L1 := Lib.hid (show PS w wr (sL w.heap.size A (.slice none 0 0) 0 (srpF ts ss js) (.slice fa js.length fcap) js.length ((srpP ts ss js).gen.fin 0) (.slice (some ⟨A + 1, 0, none⟩) js.length js.length) js.length (dnF (srpP ts ss js).gen 0)) from L1)
        clear HL
        go_wp2
        go_loopg [10] 120 (fun m z wr => ∃ (t : Nat) (vr : Value), m + t = 120 ∧ z = .int .i64 t ∧ PS w wr (sL w.heap.size A vr t (srpF ts ss js) (.slice fa js.length fcap) js.length ((srpP ts ss js).gen.fin t) (.slice (some ⟨A + 1, 0, none⟩) js.length js.length) js.length (dnF (srpP ts ss js).gen t)))
        case atStart => exact ⟨0, _, by omega, rfl, L1.out⟩
        case round =>
          obtain ⟨t, vr, hk, rfl, hL⟩ := hrel
          have HK := Lib.hid hk
          have HL := Lib.hid hL
          have htt : t ≤ 120 := by omega
          obtain ⟨ra, rcap, rfl⟩ := own_shape (hL.getN (j := 2) rfl)
          clear hk hL L1
          by_cases hlt : t < 120
          · have ht1 : (t : Int) < 120 := by omega
            go_wp2_with fail
            have IF := (HL.out.getN (j := 4) rfl).intF'
            refine (l6System_any a sa ja (some ⟨A + 1, 0, none⟩) cap scap jcap js.length ts ss js ((srpP ts ss js).gen.left t) _ (HR.out.below HL.out.be) (HS.out.below HL.out.be) (HJ.out.below HL.out.be) IF HOK.out (fun i _ => (srpP ts ss js).gen.left_ex t i)).mono ?_
            rintro e w3 ⟨rfl, b3⟩
            have L2 := Lib.hid (HL.out.below b3)
            clear b3 IF
            go_wp2_with fail
            have IF := (L2.out.getN (j := 4) rfl).intF'
            refine (l6Best_any a ja (some ⟨A + 1, 0, none⟩) cap jcap js.length ((srpP ts ss js).sys ((srpP ts ss js).gen.left t) js.length) t ts js ((srpP ts ss js).gen.left t) _ (HR.out.below L2.out.be) (HJ.out.below L2.out.be) IF HLEG.out (fun i _ => (srpP ts ss js).gen.left_ex t i) ((srpP ts ss js).sys_13 _ _) (by omega)).mono ?_
            rintro e w4 ⟨rfl, b4⟩
            have L3 := Lib.hid (L2.out.below b4)
            have HP := Lib.hid (show pickC ts js ((srpP ts ss js).gen.left t) ((srpP ts ss js).sys ((srpP ts ss js).gen.left t) js.length) t = (srpP ts ss js).gen.run t from rfl)
            clear b4 IF HL L2
            rw [HP.out]
            have z1 := L3.out.cell (j := 1) rfl 0 (by omega)
            simp only [outS] at z1
            cases hrun : (srpP ts ss js).gen.run t with
            | none =>
              have HF := Lib.hid (show srpF ts ss js t = -1 by unfold srpF; rw [hrun]; rfl)
              have HLF := Lib.hid (show ∀ i, (srpP ts ss js).gen.left (t + 1) i = (srpP ts ss js).gen.left t i from fun i => by rw [Gen.left_succ, if_neg (by rw [hrun]; simp)])
              have HFI := Lib.hid (show ∀ i, (srpP ts ss js).gen.fin (t + 1) i = (srpP ts ss js).gen.fin t i from fun i => by rw [Gen.fin_succ, if_neg (by rw [hrun]; simp)])
              clear hrun
              rw [show optI (none : Option Nat) = -1 from rfl]
              go_wp2_with (at_builtin; refine wpList_append_at _ rfl (.tmp 53) (.tmp 55) 28 rfl w.heap.size 3 iI _ 1 8 Try.underlying28 HI.out.1 HI.out.2.1 HI.out.2.2.1 HI.out.2.2.2 rfl (by decide) _ t (vals (srpF ts ss js) t) rfl ((L3.out.alloc _).getN (j := 2) rfl) ⟨w4.heap.size, 0, none⟩ 1 1 [.int .i64 (-1)] rfl rfl (news1 _ _ _) (one1 _) (by unfold maxLen; omega) (by omega) (L3.out.alloc _).sz (by decide) ?_; intro v1 u1 ho1 hg1 hp1 hn1; have L4 := Lib.hid ((L3.out.alloc _).pushN (j := 2) (f' := srpF ts ss js) rfl ho1 (fun _ _ => rfl) HF.out hg1 hp1); have y2 := L4.out.frz (j := 1) rfl 0; have y3 := L4.out.cell (j := 1) rfl 0 (by omega); have y4 := (L4.out.lt (j := 1) rfl).2; obtain ⟨a1, c1, rfl⟩ := own_shape ho1; clear ho1 hg1 hp1 hn1)
              have L5 := Lib.hid (((L4.out.st (j := 1) (F' := outS (.slice a1 (t + 1) c1) (.slice fa js.length fcap)) rfl 0 (by omega) (.slice a1 (t + 1) c1) out0).congrN (j := 3) (f' := (srpP ts ss js).gen.fin (t + 1)) rfl (fun i _ => (HFI.out i).symm)).congrN (j := 4) (f' := dnF (srpP ts ss js).gen (t + 1)) rfl (fun i _ => by unfold dnF; rw [HLF.out i]))
              go_roundg (gk - 1)
              case measure => have := HK.out; omega
              case rel => exact ⟨t + 1, _, by have := HK.out; omega, by go_num, L5.out⟩
            | some k =>
              obtain ⟨kn, krel, kl⟩ := (srpP ts ss js).fair t k hrun
              have kn : k < js.length := kn
              have hxl := (srpP ts ss js).gen.left_ex t k
              have hx : (srpP ts ss js).gen.ex k = jex js k := rfl
              have hex8 : jex js k ≤ 8 := by have h1 := leg_nat HLEG.out kn; have := tv_bd (tk_sv (legB_iff.1 HLEG.out).1 h1.1); omega
              have hlk : (srpP ts ss js).gen.left (t + 1) k = (srpP ts ss js).gen.left t k - 1 := by rw [Gen.left_succ, if_pos hrun]
              have HF := Lib.hid (show srpF ts ss js t = (k : Int) by unfold srpF; rw [hrun]; rfl)
              have HDN := Lib.hid (show ∀ i, i < js.length → (if i = k then (dnF (srpP ts ss js).gen t k + 1 : Int) else dnF (srpP ts ss js).gen t i) = dnF (srpP ts ss js).gen (t + 1) i from fun i _ => by
                by_cases e : i = k
                · subst e; rw [if_pos rfl]; unfold dnF; rw [hlk]; omega
                · rw [if_neg e]; unfold dnF; rw [Gen.left_succ, if_neg (by rw [hrun]; simpa using fun h => e h.symm)])
              obtain ⟨bj, oj, rfl, hbj, -, -, -, x3'⟩ := HJ.out k kn
              rw [(leg_nat HLEG.out kn).2.2.2.2.2.2.2.2] at x3'
              obtain ⟨gf, rfl⟩ := own_some' (L3.out.getN (j := 3) rfl) (by omega)
              have hd : dnF (srpP ts ss js).gen t k = ((jex js k - (srpP ts ss js).gen.left t k : Nat) : Int) := rfl
              rw [hd] at HDN
              have HFI := Lib.hid (show ∀ i, i < js.length → (if i = k then (if (srpP ts ss js).gen.left t k = 1 then (t : Int) + 1 else (srpP ts ss js).gen.fin t k) else (srpP ts ss js).gen.fin t i) = (srpP ts ss js).gen.fin (t + 1) i from fun i _ => by
                rw [Gen.fin_succ]
                by_cases e : i = k
                · subst e
                  rw [if_pos rfl]
                  by_cases e1 : (srpP ts ss js).gen.left t i = 1
                  · rw [if_pos e1, if_pos ⟨hrun, by omega⟩]
                  · rw [if_neg e1, if_neg (by rintro ⟨_, h⟩; omega)]
                · rw [if_neg e, if_neg (by rw [hrun]; rintro ⟨h, _⟩; exact e (Option.some.inj h).symm)])
              rw [show optI (some k) = (k : Int) from rfl]
              rw [hx] at hxl
              obtain ⟨X, hX⟩ : ∃ X, X = jex js k := ⟨_, rfl⟩
              obtain ⟨L, hLL⟩ : ∃ L, L = (srpP ts ss js).gen.left t k := ⟨_, rfl⟩
              obtain ⟨D, hD⟩ : ∃ D, D = X - L := ⟨_, rfl⟩
              rw [← hX, ← hLL, ← hD] at HDN hd
              rw [← hLL] at HFI kl hxl
              rw [← hX] at x3' hxl hex8
              have hDL : D + L = X := by omega
              clear hrun hlk hx krel hX hLL hD hxl
              have hk0 : (0 : Int) ≤ k := by omega
              have hk1 : (k : Int) < js.length := by omega
              go_wp2_with (at_builtin; refine wpList_append_at _ rfl (.tmp 53) (.tmp 55) 28 rfl w.heap.size 3 iI _ 1 8 Try.underlying28 HI.out.1 HI.out.2.1 HI.out.2.2.1 HI.out.2.2.2 rfl (by decide) _ t (vals (srpF ts ss js) t) rfl ((L3.out.alloc _).getN (j := 2) rfl) ⟨w4.heap.size, 0, none⟩ 1 1 [.int .i64 (k : Int)] rfl rfl (news1 _ _ _) (one1 _) (by unfold maxLen; omega) (by omega) (L3.out.alloc _).sz (by decide) ?_; intro v1 u1 ho1 hg1 hp1 hn1; have L4 := Lib.hid ((L3.out.alloc _).pushN (j := 2) (f' := srpF ts ss js) rfl ho1 (fun _ _ => rfl) HF.out hg1 hp1); have y2 := L4.out.frz (j := 1) rfl; have y3 := L4.out.cell (j := 1) rfl 0 (by omega); have y5 := L4.out.cell (j := 1) rfl 1 (by omega); have y4 := (L4.out.lt (j := 1) rfl).2; obtain ⟨q1, q2, q3, -⟩ := L4.out.atN (j := 4) rfl kn; obtain ⟨r1, r2, r3, r4⟩ := L4.out.atN (j := 3) rfl kn; have x3 := (L4.out.be.cell (p := ⟨bj, oj + k * 4 + 3, none⟩) hbj).trans x3'; have n1 := L4.out.neN (j := 1) (k := 3) rfl rfl (by decide); have n2 := L4.out.neNN (j := 4) (k := 3) rfl rfl (by decide); obtain ⟨l1, -⟩ := L4.out.lt (j := 1) rfl; obtain ⟨a1, c1, rfl⟩ := own_shape ho1; clear ho1 hg1 hp1 hn1; simp only [outS] at y3 y5; rw [hd] at q1; have n3 : ¬ bj = A := ne_b hbj l1; have n4 : ¬ A = bj := fun e => n3 e.symm; have n5 : ¬ bj = A + 1 := ne_b hbj (Nat.le_succ_of_le l1); have n6 : ¬ A + 1 = bj := fun e => n5 e.symm; have n7 : ¬ A = gf := n1; have n8 : ¬ gf = A := fun e => n1 e.symm; have n9 : ¬ A + 1 = gf := n2; have n10 : ¬ gf = A + 1 := fun e => n2 e.symm)
              have L5 := Lib.hid (fun n => ((((L4.out.st (j := 1) (F' := outS (.slice a1 (t + 1) c1) (.slice (some ⟨gf, 0, none⟩) js.length fcap)) rfl 0 (by omega) (.slice a1 (t + 1) c1) out0).setN (j := 4) (f' := dnF (srpP ts ss js).gen (t + 1)) rfl kn HDN.out).below (below_drewN _ n))))
              by_cases h1 : L = 1
              · have hq1 : ((D : Int) + 1 == (X : Int)) = true := beq_iff_eq.2 (by omega)
                rw [if_pos h1] at HFI
                go_quiet (fail)
                have L6 := Lib.hid ((L5.out nq).setN (j := 3) (f' := (srpP ts ss js).gen.fin (t + 1)) rfl kn HFI.out)
                clear HDN HF L4 L5 L3 x3 x3'
                go_wp2
                go_roundg (gk - 1)
                case measure => have := HK.out; omega
                case rel => exact ⟨t + 1, _, by have := HK.out; omega, by go_num, L6.out⟩
              · have hq1 : ((D : Int) + 1 == (X : Int)) = false := beq_eq_false_iff_ne.2 (by omega)
                rw [if_neg h1] at HFI
                go_quiet (fail)
                have L6 := Lib.hid ((L5.out nq).congrN (j := 3) (f' := (srpP ts ss js).gen.fin (t + 1)) rfl (fun i hi => by
                  rw [← HFI.out i hi]
                  by_cases e : i = k
                  · subst e; rw [if_pos rfl]
                  · rw [if_neg e]))
                clear HDN HF L4 L5 L3 x3 x3'
                go_wp2
                go_roundg (gk - 1)
                case measure => have := HK.out; omega
                case rel => exact ⟨t + 1, _, by have := HK.out; omega, by go_num, L6.out⟩
          · obtain rfl : t = 120 := by omega
            have x0 := HL.out.cell (j := 1) rfl 0 (by omega)
            have x1 := HL.out.cell (j := 1) rfl 1 (by omega)
            have f0 := HL.out.frz (j := 0) rfl 0
            have f1 := HL.out.frz (j := 0) rfl 1
            have c0 := HL.out.cell (j := 0) rfl 0 (by omega)
            have c1 := HL.out.cell (j := 0) rfl 1 (by omega)
            have l0 := (HL.out.lt (j := 0) rfl).2
            have l1 := (HL.out.lt (j := 1) rfl).2
            simp only [outS] at x0 x1 c0 c1
            have L7 := (HL.out.st (j := 0) (F' := outS (.slice ra 120 rcap) (.slice none 0 0)) rfl 0 (by omega) (.slice ra 120 rcap) out0).st (j := 0) (F' := outS (.slice ra 120 rcap) (.slice fa js.length fcap)) rfl 1 (by omega) (.slice fa js.length fcap) out1
            have y0 := L7.cell (j := 0) rfl 0 (by omega)
            have y1 := L7.cell (j := 0) rfl 1 (by omega)
            simp only [outS] at y0 y1
            have L7 := Lib.hid L7
            clear HK HL
            go_wp2
            refine bodyPost_ret (v := .agg #[.slice ra 120 rcap, .slice fa js.length fcap]) ?_ rfl ⟨⟨_, _, rfl, ?_, ?_, ?_⟩, L7.out.be⟩
            · simp [results, Try.results15, go_sem, y0, y1]
            · rw [lenRR, if_pos HOK.out]
              exact L7.out.getN (j := 2) rfl
            · rw [lenFR, if_pos HOK.out]
              exact L7.out.getN (j := 3) rfl
            · exact L7.out.apN (j := 3) (k := 2) (by decide) rfl rfl
  · have hok' : okR ts ss js = false := by simpa using hok
    have hor : scB ts ss = false ∨ scB ts ss = true ∧ legB ts js = false := by
      simp only [okR, Bool.and_eq_false_iff] at hok'
      cases h : scB ts ss with
      | false => exact .inl rfl
      | true =>
        rw [h] at hok'
        simp at hok'
        exact .inr ⟨rfl, hok'⟩
    have HNO := Lib.hid hok
    have HOR := Lib.hid hor
    clear hok hok' hor
    go_enter Try.func15, Try.ntmps15
    go_wp2_with fail
    rw [← HW0.out]
    refine (specSectionsValid_any _ _ _ _ _ _ _ (HR.out.below P0.out.be) (HS.out.below P0.out.be) hn hsn).mono ?_
    rintro e w1 ⟨rfl, b1⟩
    have P1 := Lib.hid (P0.out.below b1)
    clear b1
    rcases HOR.out with h1 | ⟨h1, h2⟩
    · rw [h1]
      have f0 := P1.out.frz (j := 0) rfl 0
      have f1 := P1.out.frz (j := 0) rfl 1
      have c0 := P1.out.cell (j := 0) rfl 0 (by decide)
      have c1 := P1.out.cell (j := 0) rfl 1 (by decide)
      have L7 := (P1.out.st (j := 0) (F' := outS (.slice none 0 0) (.slice none 0 0)) rfl 0 (by decide) (.slice none 0 0) out0).st (j := 0) (F' := outS (.slice none 0 0) (.slice none 0 0)) rfl 1 (by decide) (.slice none 0 0) out1
      have y0 := L7.cell (j := 0) rfl 0 (by decide)
      have y1 := L7.cell (j := 0) rfl 1 (by decide)
      simp only [outS] at y0 y1 c0 c1
      have L7 := Lib.hid L7
      clear P1 P0 h1
      go_wp2
      refine bodyPost_ret (v := .agg #[.slice none 0 0, .slice none 0 0]) ?_ rfl ⟨⟨_, _, rfl, ?_, ?_, Apart.nil _⟩, L7.out.be⟩
      · simp [results, Try.results15, go_sem, y0, y1]
      · rw [lenRR, if_neg HNO.out]
        exact OwnI.nil _ _ _
      · rw [lenFR, if_neg HNO.out]
        exact OwnI.nil _ _ _
    · rw [h1]
      go_wp2_with fail
      refine (specJobsLegal_any _ _ _ _ _ _ _ (HR.out.below P1.out.be) (HJ.out.below P1.out.be) hn hjn).mono ?_
      rintro e w2 ⟨rfl, b2⟩
      rw [h2]
      have P2 := Lib.hid (P1.out.below b2)
      have f0 := P2.out.frz (j := 0) rfl 0
      have f1 := P2.out.frz (j := 0) rfl 1
      have c0 := P2.out.cell (j := 0) rfl 0 (by decide)
      have c1 := P2.out.cell (j := 0) rfl 1 (by decide)
      have L7 := (P2.out.st (j := 0) (F' := outS (.slice none 0 0) (.slice none 0 0)) rfl 0 (by decide) (.slice none 0 0) out0).st (j := 0) (F' := outS (.slice none 0 0) (.slice none 0 0)) rfl 1 (by decide) (.slice none 0 0) out1
      have y0 := L7.cell (j := 0) rfl 0 (by decide)
      have y1 := L7.cell (j := 0) rfl 1 (by decide)
      simp only [outS] at y0 y1 c0 c1
      have L7 := Lib.hid L7
      clear P2 P1 P0 h1 h2 b2
      go_wp2
      refine bodyPost_ret (v := .agg #[.slice none 0 0, .slice none 0 0]) ?_ rfl ⟨⟨_, _, rfl, ?_, ?_, Apart.nil _⟩, L7.out.be⟩
      · simp [results, Try.results15, go_sem, y0, y1]
      · rw [lenRR, if_neg HNO.out]
        exact OwnI.nil _ _ _
      · rw [lenFR, if_neg HNO.out]
        exact OwnI.nil _ _ _

end Go.Proofs.Ytlagghoohloklaa
