/- Plain consequences for the schedules by a fixed order, as the laws of chapter 4 ask them: none late where the order is feasible (5), earliest deadline first is late only where every order is (3), an overload makes every order late (2), the first job answers after its response time (4). No program is walked. Condition: the pattern is legal. -/
import Derived.Test.YtlkibehieekceaaFixRun
import Derived.Test.YtlkibehieekceaaMissed
import Derived.Test.YtlkibehieekceaaRtImpl
import Derived.Test.YtlkibehieekceaaPlain
namespace Go.Proofs.Ytlkibehieekceaa
open Go.RowKit Go.Deep

theorem lateL_nil {js : List J4} {f : Nat → Int} : ∀ {n : Nat}, lateL js f n = [] ↔ ∀ k, k < n → lateB js f k = false
  | 0 => by simp [lateL]
  | n + 1 => by
    simp only [lateL]
    have ih := lateL_nil (js := js) (f := f) (n := n)
    cases hb : lateB js f n with
    | false =>
      simp only [Bool.false_eq_true, if_false]
      rw [ih]
      refine ⟨fun h k hk => ?_, fun h k hk => h k (by omega)⟩
      by_cases e : k = n
      · subst e
        exact hb
      · exact h k (by omega)
    | true =>
      simp only [if_true]
      constructor
      · intro h
        simp at h
      · intro h
        have := h n (by omega)
        rw [hb] at this
        simp at this
theorem late_pat {ts : List T3} {js : List J4} (hl : legB ts js = true) {P : Pat} {k : Nat} (hk : k < js.length) (hx : P.ex k = jex js k) : lateB js (fun i => P.fin 120 i) k = false ↔ (jdl js k ≤ 120 → P.left (jdl js k) k = 0) := by
  obtain ⟨hv, _, h1⟩ := legB_iff.1 hl
  have hn := (h1 k hk).nat (sv_all hv).1
  have hd : (jb js k).2.2.1 = (jdl js k : Nat) := (leg_fits hl).2.2 k hk
  have hp : 0 < P.ex k := by omega
  have hb : lateB js (fun i => P.fin 120 i) k = false ↔ ¬ ((jb js k).2.2.1 ≤ 120 ∧ (P.fin 120 k < 0 ∨ (jb js k).2.2.1 < P.fin 120 k)) := by
    rw [← Bool.not_eq_true]
    simp only [lateB, Bool.and_eq_true, Bool.or_eq_true, decide_eq_true_eq]
  rw [hb, hd]
  constructor
  · intro h hD
    refine (P.fin_by (T := 120) (i := k) hp hD).1 ⟨?_, ?_⟩
    · apply Classical.byContradiction
      intro h0
      exact h ⟨by omega, .inl (by omega)⟩
    · apply Classical.byContradiction
      intro h0
      exact h ⟨by omega, .inr (by omega)⟩
  · rintro h ⟨hD, h2⟩
    have h3 := (P.fin_by (T := 120) (i := k) hp (show jdl js k ≤ 120 by omega)).2 (h (by omega))
    omega
theorem opt_none {ts : List T3} {os : List Int} {js : List J4} (hl : legB ts js = true) (h : lateL js (finX os js) js.length = []) : lateL js (finF js) js.length = [] := by
  refine lateL_nil.2 fun k hk => (late_pat hl (P := edfP js) hk rfl).2 fun hd => ?_
  exact Pat.optimal (P := edfP js) (Q := fxP os js) (T := 120) rfl (fun _ _ => rfl) (fun _ _ => rfl) (fun i hi hi2 => (late_pat hl (P := fxP os js) hi rfl).1 (lateL_nil.1 h i hi) hi2) hk hd
theorem fix_resp {ts : List T3} {os : List Int} {js : List J4} (hl : legB ts js = true) (hf : fixB ts os = true) {k : Nat} (hk : k < js.length) :
    ∃ R : Nat, rtF ts os (jid js k) = (R : Int) ∧ resp ts (fun j => decide (rk os j < rk os (jid js k))) (jid js k) = some R ∧ R ≤ dln (tk ts (jid js k)) ∧ (fxP os js).left (jrel js k + R) k = 0 := by
  obtain ⟨ho, hF⟩ := fixB_iff.1 hf
  obtain ⟨hv, _, h1⟩ := legB_iff.1 hl
  have hn := (h1 k hk).nat (sv_all hv).1
  have hne := hF.2 _ hn.1
  cases hR : resp ts (fun j => decide (rk os j < rk os (jid js k))) (jid js k) with
  | none => exact absurd hR hne
  | some R =>
    obtain ⟨r1, r2, r3, _⟩ := lfp_some hR
    refine ⟨R, ?_, rfl, r2, ?_⟩
    · rw [rtF, rspO_rk ho hn.1, hR]
      rfl
    · refine fix_safe hl hF.1 hk ?_ r2
      rw [interf_rF]
      exact r3
theorem fix_none {ts : List T3} {os : List Int} {js : List J4} (hl : legB ts js = true) (hf : fixB ts os = true) : lateL js (finX os js) js.length = [] :=
  lateL_nil.2 fun k hk => (late_pat hl (P := fxP os js) hk rfl).2 fun _ => by
    obtain ⟨R, _, _, h2, h4⟩ := fix_resp hl hf hk
    obtain ⟨hv, _, h1⟩ := legB_iff.1 hl
    have hn := (h1 k hk).nat (sv_all hv).1
    have := (fxP os js).left_mono k (s := jrel js k + R) (t := jdl js k) (by omega)
    omega
/-- A job under a feasible order: not finished within the time, or not later than its response time. -/
theorem fix_fin {ts : List T3} {os : List Int} {js : List J4} (hl : legB ts js = true) (hf : fixB ts os = true) {k : Nat} (hk : k < js.length) :
    ∃ R : Nat, rtF ts os (jid js k) = (R : Int) ∧ R ≤ 1000 ∧ (finX os js k = -1 ∨ ∃ F : Nat, finX os js k = (F : Int) ∧ F ≤ 120 ∧ (F : Int) ≤ (jb js k).2.1 + R) := by
  obtain ⟨R, h0, _, h2, h4⟩ := fix_resp hl hf hk
  obtain ⟨hv, _, h1⟩ := legB_iff.1 hl
  have hn := (h1 k hk).nat (sv_all hv).1
  have hb := tv_bd hn.2.1
  have hr : (jb js k).2.1 = (jrel js k : Nat) := by have := (h1 k hk).2.1; simp only [jrel]; omega
  have hx : 0 < (fxP os js).ex k := by have : (fxP os js).ex k = jex js k := rfl; omega
  refine ⟨R, h0, by omega, ?_⟩
  by_cases hc : 0 < (fxP os js).left 120 k
  · exact .inl ((fxP os js).fin_open hc)
  · have a := ((fxP os js).fin_by (T := 120) (D := 120) (i := k) hx (Nat.le_refl _)).2 (by omega)
    refine .inr ⟨(finX os js k).toNat, ?_, ?_, ?_⟩
    · simp only [finX]
      omega
    · simp only [finX]
      omega
    · by_cases hd : jrel js k + R ≤ 120
      · have b := ((fxP os js).fin_by (T := 120) (D := jrel js k + R) (i := k) hx hd).2 h4
        simp only [finX]
        omega
      · simp only [finX]
        omega
/-- The synchronous pattern up to a first overload is late, by whatever keys. -/
theorem sy_some {ts : List T3} {D : Nat} (hv : svB ts = true) (hD : D ≤ 120) (hl : (sy ts D D).length < 60) (ho : D < dem ts D) (key : Nat → Nat) :
    0 < (lateL (sy ts D D) (fun i => (Pat.mk (sy ts D D).length (jrel (sy ts D D)) (jex (sy ts D D)) key).fin 120 i) (sy ts D D).length).length := by
  refine List.length_pos_iff.2 fun h => ?_
  obtain ⟨i, hi, hd, hp⟩ := sy_late hv hD hl ho key
  have := (late_pat (sy_legal hv hD) (P := Pat.mk (sy ts D D).length (jrel (sy ts D D)) (jex (sy ts D D)) key) hi rfl).1 (lateL_nil.1 h i hi) (by omega)
  omega
/-- The jobs of the synchronous pattern up to 60 under a feasible order: each is finished by its response time, the first ones just then. -/
theorem crit_fin {ts : List T3} {os : List Int} (hf : fixB ts os = true) {k : Nat} (hk : k < (sy ts 60 60).length) :
    ∃ F R : Nat, finX os (sy ts 60 60) k = (F : Int) ∧ rtF ts os (jid (sy ts 60 60) k) = (R : Int) ∧ F ≤ 120 ∧ R ≤ 1000 ∧ (F : Int) ≤ (jb (sy ts 60 60) k).2.1 + R ∧ ((jb (sy ts 60 60) k).2.1 = 0 → F = R) := by
  obtain ⟨ho, hF⟩ := fixB_iff.1 hf
  have hv := (ordB_iff.1 ho).1
  have hl := sy_legal hv (show 60 ≤ 120 by omega)
  obtain ⟨R, h0, hR, h2, h4⟩ := fix_resp hl hf hk
  obtain ⟨_, _, h1⟩ := legB_iff.1 hl
  have hn := (h1 k hk).nat (sv_all hv).1
  have hb := tv_bd hn.2.1
  have hr : (jb (sy ts 60 60) k).2.1 = (jrel (sy ts 60 60) k : Nat) := by have := (h1 k hk).2.1; simp only [jrel]; omega
  have hx : 0 < (fxP os (sy ts 60 60)).ex k := by have : (fxP os (sy ts 60 60)).ex k = jex (sy ts 60 60) k := rfl; omega
  have hd := ((sy_sy (all_of_sv hv) (show 60 ≤ 120 by omega) (Nat.le_refl 60)).dl k hk).1
  have hdd : (jb (sy ts 60 60) k).2.2.1 = (jdl (sy ts 60 60) k : Nat) := (leg_fits hl).2.2 k hk
  have b := ((fxP os (sy ts 60 60)).fin_by (T := 120) (D := jrel (sy ts 60 60) k + R) (i := k) hx (by omega)).2 h4
  refine ⟨(finX os (sy ts 60 60) k).toNat, R, ?_, h0, ?_, by omega, ?_, fun hz => ?_⟩
  · simp only [finX]
    omega
  · simp only [finX]
    omega
  · simp only [finX]
    omega
  · have hz' : jrel (sy ts 60 60) k = 0 := by omega
    rw [hz', Nat.zero_add] at b
    apply Classical.byContradiction
    intro hne
    have hlt : (finX os (sy ts 60 60) k).toNat < R := by simp only [finX] at hne ⊢; omega
    have c := crit_lo hv hF hk hz' hR hlt
    have d := ((fxP os (sy ts 60 60)).fin_by (T := 120) (D := (finX os (sy ts 60 60) k).toNat) (i := k) hx (by omega)).1 ⟨b.1, by simp only [finX]; omega⟩
    have e : (fixP (sy ts 60 60) (rk os)).left (finX os (sy ts 60 60) k).toNat k = 0 := d
    omega

end Go.Proofs.Ytlkibehieekceaa
