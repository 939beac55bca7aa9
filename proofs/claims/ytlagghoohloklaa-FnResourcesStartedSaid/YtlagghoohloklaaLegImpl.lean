/- Contract of impl.Job.legal. Conditions: the slice's cells hold valid tasks. -/
import Derived.Test.YtlagghoohloklaaCmpImpl
namespace Go.Proofs.Ytlagghoohloklaa
open Go.RowKit Go.Deep

def LegJ (ts : List T3) (id r dl ex : Int) : Prop := (0 ≤ id ∧ id < ts.length) ∧ (0 ≤ r ∧ r ≤ 119) ∧ dl = r + (tk ts id.toNat).2.1 ∧ (1 ≤ ex ∧ ex ≤ (tk ts id.toNat).1)
instance (ts : List T3) (id r dl ex : Int) : Decidable (LegJ ts id r dl ex) := by unfold LegJ; infer_instance
/-- All that a job must meet by itself. -/
def legJ (ts : List T3) (id r dl ex : Int) : Bool := decide (LegJ ts id r dl ex)
theorem ret_legJ {ts : List T3} {id r dl ex : Int} {b : Bool} (h : b = true ↔ LegJ ts id r dl ex) : Ending.returned (.bool b) = .returned (.bool (legJ ts id r dl ex)) := by
  rw [legJ]
  congr 2
  rw [Bool.eq_iff_iff, h]
  simp

set_option maxRecDepth 100000 in
set_option maxHeartbeats 1000000 in
/-- impl.Job.legal. -/
theorem legalJob_any (a : Option Addr) (cap : Nat) (ts : List T3) (id r dl ex : Int) (w : World) (hr : Row w a ts) (hv : ts.all tv = true) :
    Calls Try.prog 87 #[.agg #[.int .i64 id, .int .i64 r, .int .i64 dl, .int .i64 ex], .slice a ts.length cap] w fun e w' =>
      e = .returned (.bool (legJ ts id r dl ex)) ∧ Below w.heap.size w w' := by
  have HR := Lib.hid hr
  have HV := Lib.hid hv
  clear hr hv
  by_cases h : (0 ≤ id ∧ id < ts.length) ∧ (0 ≤ r ∧ r ≤ 119)
  · obtain ⟨⟨h1, h2⟩, h3, h4⟩ := h
    obtain ⟨i, rfl⟩ := Int.eq_ofNat_of_zero_le h1
    have hi : i < ts.length := by omega
    obtain ⟨bt, ot, rfl, hbt, y0, y1, y2⟩ := HR.out.at hi
    obtain ⟨⟨C, D, Q⟩, hT⟩ : ∃ t, t = tk ts i := ⟨_, rfl⟩
    rw [← hT] at y0 y1 y2
    simp only at y0 y1 y2
    have hbd := tv_bd (tk_tv HV.out hi)
    rw [← hT] at hbd
    simp only [cst, dln, per] at hbd
    have HT := Lib.hid hT
    clear hT
    have n1 : ¬ (i : Int) < 0 := by omega
    have n2 : ¬ (ts.length : Int) ≤ i := by omega
    have n3 : ¬ r < 0 := by omega
    have n4 : ¬ (120 : Int) ≤ r := by omega
    have hne : ¬ w.heap.size = bt := by omega
    by_cases c1 : dl = r + D
    · subst c1
      by_cases c2 : 1 ≤ ex
      · by_cases c3 : ex ≤ C
        · go_enter Try.func87, Try.ntmps87
          go_wp2
          go_ret
          exact ⟨ret_legJ (by simp only [LegJ, Int.toNat_natCast, ← HT.out]; simp; omega), (below_box _ _).alloc (by simp) _⟩
        · go_enter Try.func87, Try.ntmps87
          go_wp2
          go_ret
          exact ⟨ret_legJ (by simp only [LegJ, Int.toNat_natCast, ← HT.out]; simp; omega), (below_box _ _).alloc (by simp) _⟩
      · go_enter Try.func87, Try.ntmps87
        go_wp2
        go_ret
        exact ⟨ret_legJ (by simp only [LegJ, Int.toNat_natCast, ← HT.out]; simp; omega), (below_box _ _).alloc (by simp) _⟩
    · have c1' : (dl == r + D) = false := by simpa using c1
      have HC1 := Lib.hid c1
      clear c1
      go_enter Try.func87, Try.ntmps87
      go_wp2
      go_ret
      exact ⟨ret_legJ (by have := HC1.out; simp only [LegJ, Int.toNat_natCast, ← HT.out]; simp; omega), (below_box _ _).alloc (by simp) _⟩
  · have HN := Lib.hid h
    clear h
    by_cases h1 : id < 0
    · go_enter Try.func87, Try.ntmps87
      go_wp2
      go_ret
      exact ⟨ret_legJ (by have := HN.out; simp only [LegJ]; simp; omega), below_box _ _⟩
    · by_cases h2 : (ts.length : Int) ≤ id
      · go_enter Try.func87, Try.ntmps87
        go_wp2
        go_ret
        exact ⟨ret_legJ (by have := HN.out; simp only [LegJ]; simp; omega), below_box _ _⟩
      · by_cases h3 : r < 0
        · go_enter Try.func87, Try.ntmps87
          go_wp2
          go_ret
          exact ⟨ret_legJ (by have := HN.out; simp only [LegJ]; simp; omega), below_box _ _⟩
        · have h4 : (120 : Int) ≤ r := by have := HN.out; omega
          go_enter Try.func87, Try.ntmps87
          go_wp2
          go_ret
          exact ⟨ret_legJ (by have := HN.out; simp only [LegJ]; simp; omega), below_box _ _⟩

end Go.Proofs.Ytlagghoohloklaa
