/- The walks of laws.FnExactFormatTask and laws.FnExactParseTask over the program's and the reference's contracts. Conditions: those of each theorem. -/
import Derived.Test.YtdgihkmiolnglaaDoorTxtLex
import Derived.Test.YtdgihkmiolnglaaDoorTxtLine
namespace Go.Proofs.YtdgihkmiolnglaaDoor
open Go.RowKit Go.Deep

set_option maxRecDepth 100000 in
set_option maxHeartbeats 1000000 in
theorem exactFormatTask_walk (c d p : Int) (w : World) :
    Calls Tryd.prog 4 #[.agg #[.int .i64 c, .int .i64 d, .int .i64 p]] w fun e w' =>
      e = .returned (.bool true) ∧ Below w.heap.size w w' := by
  go_enter Tryd.func4, Tryd.ntmps4
  go_wp2_with fail
  refine (toTask_any _ _ _ _).mono ?_
  rintro e w1 ⟨rfl, hb1⟩
  go_wp2_with fail
  refine (specFormatTask_any _ _ _ _).mono ?_
  rintro e w2 ⟨rfl, hb2⟩
  have hb12 := hb1.trans (hb2.mono (by have := hb1.size; simp at this ⊢; omega))
  obtain ⟨hc1, hf1⟩ := bcell hb12
  go_wp2_with fail
  refine (toTask_any _ _ _ _).mono ?_
  rintro e w3 ⟨rfl, hb3⟩
  go_wp2_with fail
  refine (formatTask_any _ _ _ _).mono ?_
  rintro e w4 ⟨rfl, hb4⟩
  have s1 := hb1.size
  have s2 := hb2.size
  have s3 := hb3.size
  simp at s1
  have HE := Lib.hid ((below_box w (.cells #[.int .i64 c, .int .i64 d, .int .i64 p] 33)).trans ((hb12.mono (by simp)).trans ((hb3.mono (by omega)).trans (hb4.mono (by omega)))))
  obtain ⟨X, hX⟩ : ∃ X, X = bs (fmtL c d p) := ⟨_, rfl⟩
  rw [← hX]
  clear hb1 hb2 hb12 hb3 hb4 hc1 hf1 s1 s2 s3 hX
  go_wp2
  go_ret
  exact ⟨rfl, HE.out⟩

set_option maxRecDepth 100000 in
set_option maxHeartbeats 1000000 in
theorem exactParseTask_walk (s : ByteArray) (w : World) (hG : ErrsG w) :
    Calls Tryd.prog 5 #[.string s] w fun e w' => e = .returned (.bool true) ∧ Below w.heap.size w w' := by
  obtain ⟨l, rfl⟩ : ∃ l, s = bs l := ⟨lst s, (bs_lst s).symm⟩
  have hs : (bs l).size = l.length := bs_size l
  by_cases hl : 1048576 < l.length
  · have hl' : (1048576 : Int) < (l.length : Nat) := by omega
    clear hl
    go_enter Tryd.func5, Tryd.ntmps5
    go_wp2
    go_ret
    exact ⟨rfl, Below.refl _ _⟩
  have hl' : ¬ (1048576 : Int) < (l.length : Nat) := by omega
  have HG := Lib.hid hG
  have HL := Lib.hid hl
  clear hG hl
  go_enter Tryd.func5, Tryd.ntmps5
  go_wp2_with fail
  refine (specParseTask_any l _ (Nat.le_of_not_lt HL.out)).mono ?_
  rintro e w1 ⟨⟨c, d, p, ok, rfl, hP⟩, b1⟩
  have G1 := HG.out.below HG.out.lt b1
  go_wp2_with fail
  obtain ⟨W1, hW1⟩ : ∃ W1, W1 = w1.alloc (.cells #[.int .i64 c, .int .i64 d, .int .i64 p] 24) := ⟨_, rfl⟩
  have bw1 := below_box w1 (.cells #[.int .i64 c, .int .i64 d, .int .i64 p] 24)
  rw [← hW1] at bw1 ⊢
  have x0 : W1.cell? ⟨w1.heap.size, 0, none⟩ = some (.int .i64 c) := by rw [hW1]; simp [go_sem]
  have x1 : W1.cell? ⟨w1.heap.size, 1, none⟩ = some (.int .i64 d) := by rw [hW1]; simp [go_sem]
  have x2 : W1.cell? ⟨w1.heap.size, 2, none⟩ = some (.int .i64 p) := by rw [hW1]; simp [go_sem]
  have hlt : w1.heap.size < W1.heap.size := by rw [hW1]; simp
  have B1 := b1.trans (bw1.mono b1.size)
  have GW := HG.out.below HG.out.lt B1
  clear hW1 bw1 b1 G1
  refine (parseTask_any l W1 (Nat.le_of_not_lt HL.out) GW).mono ?_
  rintro e w2 ⟨⟨c', d', p', ok', rfl, hP'⟩, b2⟩
  obtain ⟨rfl, rfl, rfl, rfl⟩ := hP'.same hP
  have x0 := (b2.cell (p := ⟨w1.heap.size, 0, none⟩) hlt).trans x0
  have x1 := (b2.cell (p := ⟨w1.heap.size, 1, none⟩) hlt).trans x1
  have x2 := (b2.cell (p := ⟨w1.heap.size, 2, none⟩) hlt).trans x2
  have B2 := B1.trans (b2.mono B1.size)
  have s2 := B2.size
  have hl2 : w1.heap.size < w2.heap.size := Nat.lt_of_lt_of_le hlt b2.size
  have hne : (w1.heap.size == w2.heap.size) = false := by rw [beq_eq_false_iff_ne]; omega
  clear b2 hP hP' GW B1
  go_wp2_with fail
  refine (eqTask_same _ _ _ _).mono ?_
  rintro e w3 ⟨rfl, b3⟩
  have HE := Lib.hid ((B2.alloc s2 _).trans (b3.mono (by simp; omega)))
  clear b3 B2 x0 x1 x2
  cases ok' <;> (go_wp2; go_ret; exact ⟨rfl, HE.out⟩)

end Go.Proofs.YtdgihkmiolnglaaDoor
