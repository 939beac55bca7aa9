/- Contract of spec.RunEdf. Conditions: the slices' cells hold tasks and jobs; their lengths are at most 2^40. -/
import Derived.Test.YtlkibehieekceaaLegalSpec
namespace Go.Proofs.Ytlkibehieekceaa
open Go.RowKit Go.Deep

def lenR (ts : List T3) (js : List J4) : Nat := if legB ts js = true then 120 else 0
def lenF (ts : List T3) (js : List J4) : Nat := if legB ts js = true then js.length else 0
def runF (js : List J4) : Nat → Int := fun t => optI ((edfP js).run t)
def finF (js : List J4) : Nat → Int := fun i => (edfP js).fin 120 i
/-- The schedule of earliest deadline first, in two slices of its own; the zero value for an illegal pattern. -/
def EdfSched (base : Nat) (ts : List T3) (js : List J4) (e : Ending) (w' : World) : Prop :=
  ∃ vr vf, e = .returned (.agg #[vr, vf]) ∧ OwnI w' base vr (lenR ts js) (runF js) ∧ OwnI w' base vf (lenF ts js) (finF js) ∧ Apart vf vr
theorem leg_fits {ts : List T3} {js : List J4} (h : legB ts js = true) : Fits js (edfP js) ∧ (∀ k, k < js.length → (edfP js).ex k ≤ 1000) ∧ ∀ k, k < js.length → (jb js k).2.2.1 = ((edfP js).key k : Nat) := by
  obtain ⟨hv, hl, h1⟩ := legB_iff.1 h
  have hall := (sv_all hv).1
  have hk : ∀ k, k < js.length → (jb js k).2.1 = (jrel js k : Nat) ∧ (jb js k).2.2.2 = (jex js k : Nat) ∧ (jb js k).2.2.1 = (jdl js k : Nat) ∧ jex js k ≤ 1000 := by
    intro k hk
    have h2 := h1 k hk
    obtain ⟨a1, a2, a3, a4, a5, a6, a7⟩ := h2.nat hall
    have hb := tv_bd a2
    obtain ⟨_, ⟨b1, _⟩, _, b3, ⟨b4, _⟩, _⟩ := h2
    simp only [jrel, jex, jdl] at *
    refine ⟨by omega, by omega, by omega, by omega⟩
  exact ⟨⟨rfl, fun k h => (hk k h).1, fun k h => (hk k h).2.1⟩, fun k h => (hk k h).2.2.2, fun k h => (hk k h).2.2.1⟩

/-- spec.RunEdf. -/
theorem specRunEdf_any (a ja : Option Addr) (cap jcap : Nat) (ts : List T3) (js : List J4) (w : World) (hr : Row w a ts) (hj : RowJ w ja js) (hn : ts.length ≤ 1099511627776) (hjn : js.length ≤ 1099511627776) :
    Calls Try.prog 13 #[.slice a ts.length cap, .slice ja js.length jcap] w fun e w' =>
      EdfSched w.heap.size ts js e w' ∧ Below w.heap.size w w' := by
  have HR := Lib.hid (hr.below (below_box w (.cells #[.slice none 0 0, .slice none 0 0] 28)))
  have HJ := Lib.hid (hj.below (below_box w (.cells #[.slice none 0 0, .slice none 0 0] 28)))
  clear hr hj
  by_cases hl : legB ts js = true
  · go_enter Try.func13, Try.ntmps13
    go_wp2_with fail
    refine (specJobsLegal_any _ _ _ _ _ _ _ HR.out HJ.out hn hjn).mono ?_
    rintro e w1 ⟨rfl, b1⟩
    have J1 := Lib.hid (HJ.out.below b1)
    obtain ⟨hf, hx, hky⟩ := leg_fits hl
    have h60 := (legB_iff.1 hl).2.1
    have HL := Lib.hid hl
    have x0 : w1.cell? ⟨w.heap.size, 0, none⟩ = some (.slice none 0 0) := by rw [b1.cell (p := ⟨w.heap.size, 0, none⟩) (by simp)]; go_simp
    have x1 : w1.cell? ⟨w.heap.size, 1, none⟩ = some (.slice none 0 0) := by rw [b1.cell (p := ⟨w.heap.size, 1, none⟩) (by simp)]; go_simp
    have f0 : w1.frozen? ⟨w.heap.size, 0, none⟩ = false := by rw [b1.frozen (p := ⟨w.heap.size, 0, none⟩) (by simp)]; go_simp
    have f1 : w1.frozen? ⟨w.heap.size, 1, none⟩ = false := by rw [b1.frozen (p := ⟨w.heap.size, 1, none⟩) (by simp)]; go_simp
    have bw1 : Below w.heap.size w w1 := (below_box _ _).trans (b1.mono (by simp))
    have hs1 := b1.size
    simp at hs1
    have HF := Lib.hid (And.intro hf (And.intro hx hky))
    clear hf hx hky
    rw [HL.out]
    clear hl
    go_wp2_with fail
    refine (l3Deadlines_any _ _ _ _ J1.out h60).mono ?_
    rintro e w2 ⟨v, rfl, hown, b2⟩
    obtain ⟨ka, kcap, rfl, hIF, _⟩ := hown.intF
    have KF := Lib.hid (hIF.congr HF.out.2.2)
    have J2 := Lib.hid (J1.out.below b2)
    clear hown hIF
    go_wp2_with fail
    refine (l3Run_any _ _ _ _ js (edfP js) _ J2.out KF.out HF.out.1 HF.out.2.1 h60).mono ?_
    rintro e w3 ⟨⟨vr, vf, rfl, o1, o2, ap⟩, b3⟩
    have hs2 := b2.size
    have hlt : w.heap.size < w2.heap.size := by omega
    have y0 := (b3.cell (p := ⟨w.heap.size, 0, none⟩) hlt).trans ((b2.cell (p := ⟨w.heap.size, 0, none⟩) hs1).trans x0)
    have y1 := (b3.cell (p := ⟨w.heap.size, 1, none⟩) hlt).trans ((b2.cell (p := ⟨w.heap.size, 1, none⟩) hs1).trans x1)
    have g0 := (b3.frozen (p := ⟨w.heap.size, 0, none⟩) hlt).trans ((b2.frozen (p := ⟨w.heap.size, 0, none⟩) hs1).trans f0)
    have g1 := (b3.frozen (p := ⟨w.heap.size, 1, none⟩) hlt).trans ((b2.frozen (p := ⟨w.heap.size, 1, none⟩) hs1).trans f1)
    obtain ⟨ar, capr, rfl⟩ := own_shape o1
    obtain ⟨af, capf, rfl⟩ := own_shape o2
    have bw3 : Below w.heap.size w w3 := bw1.trans ((b2.trans (b3.mono b2.size)).mono (by omega))
    have O := Lib.hid (And.intro o1 (And.intro o2 ap))
    clear o1 o2 ap x0 x1 f0 f1
    go_wp2
    refine bodyPost_ret (v := .agg #[.slice ar 120 capr, .slice af js.length capf]) ?_ rfl ⟨⟨_, _, rfl, ?_, ?_, O.out.2.2⟩, (bw3.setCell (Nat.le_refl _) _).setCell (Nat.le_refl _) _⟩
    · simp [results, Try.results13, go_sem, y0, y1]
    · rw [lenR, if_pos HL.out]
      exact ((O.out.1.other fun e => by have := (O.out.1.lt _ e).1; simp at this; omega).other fun e => by have := (O.out.1.lt _ e).1; simp at this; omega).mono (by omega)
    · rw [lenF, if_pos HL.out]
      exact ((O.out.2.1.other fun e => by have := (O.out.2.1.lt _ e).1; simp at this; omega).other fun e => by have := (O.out.2.1.lt _ e).1; simp at this; omega).mono (by omega)
  · have hl' : legB ts js = false := by simpa using hl
    have HL := Lib.hid hl'
    clear hl hl'
    go_enter Try.func13, Try.ntmps13
    go_wp2_with fail
    refine (specJobsLegal_any _ _ _ _ _ _ _ HR.out HJ.out hn hjn).mono ?_
    rintro e w1 ⟨rfl, b1⟩
    rw [HL.out]
    have x0 : w1.cell? ⟨w.heap.size, 0, none⟩ = some (.slice none 0 0) := by rw [b1.cell (p := ⟨w.heap.size, 0, none⟩) (by simp)]; go_simp
    have x1 : w1.cell? ⟨w.heap.size, 1, none⟩ = some (.slice none 0 0) := by rw [b1.cell (p := ⟨w.heap.size, 1, none⟩) (by simp)]; go_simp
    have f0 : w1.frozen? ⟨w.heap.size, 0, none⟩ = false := by rw [b1.frozen (p := ⟨w.heap.size, 0, none⟩) (by simp)]; go_simp
    have f1 : w1.frozen? ⟨w.heap.size, 1, none⟩ = false := by rw [b1.frozen (p := ⟨w.heap.size, 1, none⟩) (by simp)]; go_simp
    have bw1 : Below w.heap.size w w1 := (below_box _ _).trans (b1.mono (by simp))
    go_wp2
    refine bodyPost_ret (v := .agg #[.slice none 0 0, .slice none 0 0]) ?_ rfl ⟨⟨_, _, rfl, ?_, ?_, Apart.nil _⟩, (bw1.setCell (Nat.le_refl _) _).setCell (Nat.le_refl _) _⟩
    · simp [results, Try.results13, go_sem, x0, x1]
    · rw [lenR, if_neg (by rw [HL.out]; simp)]
      exact OwnI.nil _ _ _
    · rw [lenF, if_neg (by rw [HL.out]; simp)]
      exact OwnI.nil _ _ _

end Go.Proofs.Ytlkibehieekceaa
