/- Contracts of impl.Section.fits, impl.SectionsValid, impl.Ceilings. Conditions: the slices hold what is said, at most 2^40 entries. -/
import Derived.Test.YtlagghoohloklaaSecSpec
import Derived.Test.YtlagghoohloklaaRepeat
import Derived.IntWalk
import Derived.StillTailTactics
namespace Go.Proofs.Ytlagghoohloklaa
open Go.RowKit Go.Deep

/-- impl.Section.fits, beside a task whose cost is small. -/
theorem fits_any (a b c C D P : Int) (w : World) (ha : a ≤ 9223372036854775807) (h1 : 1 ≤ C) (h8 : C ≤ 8) :
    Calls Try.prog 86 #[.agg #[.int .i64 a, .int .i64 b, .int .i64 c], .agg #[.int .i64 C, .int .i64 D, .int .i64 P]] w fun e w' =>
      e = .returned (.bool (sc1 (C, D, P) (a, b, c))) ∧ Below w.heap.size w w' := by
  by_cases hb : b = 0
  · subst hb
    by_cases ha0 : a = 0
    · subst ha0
      by_cases hc : c = 0
      · subst hc
        go_enter Try.func86, Try.ntmps86
        go_wp2
        go_ret
        exact ⟨ret_bool (Eq.symm (sc1_iff.2 ⟨fun _ => ⟨rfl, rfl⟩, by simp only; omega⟩)), (below_box _ _).alloc (by simp) _⟩
      · have HY := Lib.hid (show sc1 (C, D, P) (0, 0, c) = false from decide_eq_false (by rintro ⟨h, _⟩; exact hc (h rfl).2))
        go_enter Try.func86, Try.ntmps86
        go_wp2
        go_ret
        exact ⟨ret_bool HY.out.symm, (below_box _ _).alloc (by simp) _⟩
    · have HY := Lib.hid (show sc1 (C, D, P) (a, 0, c) = false from decide_eq_false (by rintro ⟨h, _⟩; exact ha0 (h rfl).1))
      go_enter Try.func86, Try.ntmps86
      go_wp2
      go_ret
      exact ⟨ret_bool HY.out.symm, (below_box _ _).alloc (by simp) _⟩
  · have hb0 : (b == 0) = false := beq_eq_false_iff_ne.2 hb
    have hw : ∀ a, 0 ≤ a → a ≤ 9223372036854775807 → IntKind.i64.wrap (C - a) = C - a := fun a h0 h1 => IntWalk.i64_in _ (by omega)
    by_cases ha0 : 0 ≤ a
    · have hw' := hw a ha0 ha
      have HY := Lib.hid (show sc1 (C, D, P) (a, b, c) = decide (0 < b ∧ b ≤ C - a ∧ 0 ≤ c ∧ c < 3) from by
        unfold sc1
        apply decide_eq_decide.2
        constructor
        · rintro ⟨_, h⟩
          simp only at h
          omega
        · intro h
          refine ⟨fun h => absurd h hb, ?_⟩
          simp only
          omega)
      clear hw hb
      go_enter Try.func86, Try.ntmps86
      go_wp2
      all_goals (go_ret; exact ⟨ret_bool (by rw [HY.out, eq_comm]; first | (apply decide_eq_decide.2; omega) | (apply decide_eq_false; omega) | (apply decide_eq_true; omega)), (below_box _ _).alloc (by simp) _⟩)
    · have HY := Lib.hid (show sc1 (C, D, P) (a, b, c) = false from decide_eq_false (by rintro ⟨_, h⟩; simp only at h; omega))
      clear hw hb
      go_enter Try.func86, Try.ntmps86
      go_wp2
      go_ret
      exact ⟨ret_bool HY.out.symm, (below_box _ _).alloc (by simp) _⟩

/-- No section starts beyond what an int holds. -/
def StB (ss : List T3) : Prop := ∀ k, k < ss.length → (tk ss k).1 ≤ 9223372036854775807

set_option maxRecDepth 100000 in
set_option maxHeartbeats 4000000 in
/-- impl.SectionsValid. -/
theorem sectionsValid_any (a sa : Option Addr) (cap scap : Nat) (ts ss : List T3) (w : World) (hr : Row w a ts) (hs : Row w sa ss) (hb : StB ss) (hn : ts.length ≤ 1099511627776) (_hsn : ss.length ≤ 1099511627776) :
    Calls Try.prog 46 #[.slice a ts.length cap, .slice sa ss.length scap] w fun e w' => e = .returned (.bool (scB ts ss)) ∧ Below w.heap.size w w' := by
  have HR := Lib.hid hr
  have HS := Lib.hid hs
  have HSB := Lib.hid hb
  clear hr hs hb
  cases hv : svB ts with
  | false =>
    go_enter Try.func46, Try.ntmps46
    go_wp2_with fail
    refine (setValid_any _ _ _ _ HR.out hn).mono ?_
    rintro e w1 ⟨rfl, b1⟩
    rw [hv]
    have HY := Lib.hid (sc_no1 (ss := ss) hv)
    clear hv
    go_wp2
    go_ret
    exact ⟨ret_bool HY.out.symm, b1⟩
  | true =>
  have HV := Lib.hid hv
  clear hv
  by_cases hl : ss.length = ts.length
  · have hlb : ((ss.length : Int) != (ts.length : Int)) = false := by simp; omega
    have hlb2 : (ss.length != ts.length) = false := by simp; omega
    have HL := Lib.hid hl
    clear hl
    go_enter Try.func46, Try.ntmps46
    go_wp2_with fail
    refine (setValid_any _ _ _ _ HR.out hn).mono ?_
    rintro e w1 ⟨rfl, b1⟩
    rw [HV.out]
    have R1 := Lib.hid (HR.out.below b1)
    have S1 := Lib.hid (HS.out.below b1)
    have B1 := Lib.hid b1
    clear b1 HR HS
    go_wp2
    clear hlb hlb2
    go_loopg [19] ss.length (fun m i wr => ∃ k : Nat, m + k = ss.length ∧ i = .int .i64 k ∧ (∀ j, j < k → sc1 (tk ts j) (tk ss j) = true) ∧ Below w1.heap.size w1 wr)
    case atStart => exact ⟨0, rfl, rfl, fun j hj => absurd hj (Nat.not_lt_zero _), Below.refl _ _⟩
    case round =>
      obtain ⟨k, hk, rfl, hall, B⟩ := hrel
      have HK := Lib.hid hk
      have HA := Lib.hid hall
      have hkk : k ≤ ss.length := by omega
      clear hk hall
      by_cases hlt : k < ss.length
      · have hlt2 : k < ts.length := by have := HL.out; omega
        obtain ⟨b, off, rfl, hbs, x0, x1, x2⟩ := (S1.out.below B).tk hlt
        obtain ⟨bt, ot, rfl, hbt, y0, y1, y2⟩ := (R1.out.below B).tk hlt2
        have htv := (tvB_iff _ _ _).1 (tk_sv HV.out hlt2)
        have hst := HSB.out k hlt
        have HB := Lib.hid B
        obtain ⟨⟨p, q, r⟩, hQ⟩ : ∃ s, s = tk ss k := ⟨_, rfl⟩
        obtain ⟨⟨C, D, P⟩, hC⟩ : ∃ t, t = tk ts k := ⟨_, rfl⟩
        rw [← hQ] at x0 x1 x2 hst
        rw [← hC] at y0 y1 y2 htv
        simp only at x0 x1 x2 y0 y1 y2 htv hst
        have hc1 : 1 ≤ C := htv.1
        have hc8 : C ≤ 8 := htv.2.1
        have HQ := Lib.hid (And.intro hQ hC)
        have hk0 : (0 : Int) ≤ k := by omega
        have hk1 : (k : Int) < ss.length := by omega
        have hk2 : (k : Int) < ts.length := by omega
        clear hQ hC htv B
        have b2 := below_box wr (.cells #[.int .i64 p, .int .i64 q, .int .i64 r] 39)
        obtain ⟨W, hW⟩ : ∃ W, W = wr.alloc (.cells #[.int .i64 p, .int .i64 q, .int .i64 r] 39) := ⟨_, rfl⟩
        rw [← hW] at b2
        have z0 : W.cell? ⟨wr.heap.size, 0, none⟩ = some (.int .i64 p) := by rw [hW]; go_simp
        have z1 : W.cell? ⟨wr.heap.size, 1, none⟩ = some (.int .i64 q) := by rw [hW]; go_simp
        have z2 : W.cell? ⟨wr.heap.size, 2, none⟩ = some (.int .i64 r) := by rw [hW]; go_simp
        have v0 := (b2.cell (p := ⟨bt, ot + k * 3, none⟩) hbt).trans y0
        have v1 := (b2.cell (p := ⟨bt, ot + k * 3 + 1, none⟩) hbt).trans y1
        have v2 := (b2.cell (p := ⟨bt, ot + k * 3 + 2, none⟩) hbt).trans y2
        have B2 := Lib.hid (HB.out.trans (b2.mono HB.out.size))
        have HW := Lib.hid hW
        clear hW b2 y0 y1 y2
        go_wp2
        rw [← HW.out]
        refine wp_region_still_tail 5 (by kernel_rfl) (by kernel_rfl) ?_
        simp only [List.take_succ_cons, List.take_zero, List.drop_succ_cons, List.drop_zero]
        change wpStill _ _ W.drew (fun a' => wpList _ _ _ _ a' W.drew) _ _
        iterate 5 still_step
        refine wpStill_nil ?_
        go_wp2_with fail
        refine (fits_any p q r C D P _ hst hc1 hc8).mono ?_
        rintro e w2 ⟨rfl, b3⟩
        have B3 := Lib.hid (B2.out.trans (((Below.refl W.heap.size W).drew.trans b3).mono B2.out.size))
        clear b3 x0 x1 x2 z0 z1 z2 v0 v1 v2
        cases hsc : sc1 (C, D, P) (p, q, r) with
        | true =>
          have HY := Lib.hid (show sc1 (tk ts k) (tk ss k) = true by rw [← HQ.out.1, ← HQ.out.2]; exact hsc)
          clear hsc
          go_wp2
          go_roundg (gk - 1)
          case measure => have := HK.out; omega
          case rel => exact ⟨k + 1, by have := HK.out; omega, by go_num, fun j hj => by
            by_cases e : j = k
            · subst e; exact HY.out
            · exact HA.out j (by omega), B3.out⟩
        | false =>
          have HY := Lib.hid (sc_no3 (ts := ts) hlt (show sc1 (tk ts k) (tk ss k) = false by rw [← HQ.out.1, ← HQ.out.2]; exact hsc))
          clear hsc
          go_wp2
          go_ret
          exact ⟨ret_bool HY.out.symm, B1.out.trans (B3.out.mono B1.out.size)⟩
      · obtain rfl : k = ss.length := by omega
        have HY := Lib.hid (scB_iff.2 ⟨HV.out, HL.out, HA.out⟩)
        have hlt2 : ¬ (ss.length : Int) < ss.length := by omega
        go_wp2
        go_ret
        exact ⟨ret_bool HY.out.symm, B1.out.trans (B.mono B1.out.size)⟩
  · have hlb : ((ss.length : Int) != (ts.length : Int)) = true := by simp; omega
    have hlb2 : (ss.length != ts.length) = true := by simp; omega
    have HY := Lib.hid (sc_no2 (ts := ts) hl)
    clear hl
    go_enter Try.func46, Try.ntmps46
    go_wp2_with fail
    refine (setValid_any _ _ _ _ HR.out hn).mono ?_
    rintro e w1 ⟨rfl, b1⟩
    rw [HV.out]
    go_wp2
    go_ret
    exact ⟨ret_bool HY.out.symm, b1⟩

end Go.Proofs.Ytlagghoohloklaa
