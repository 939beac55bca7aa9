/- Walks: spec.DrawTaskValid (a task is drawn) and laws.FnTaskValid. Conditions: the argument is a slice of bytes. -/
import Derived.Test.YtcpgpioophlaoaaDraw
namespace Go.Proofs.Ytcpgpioophlaoaa
open Go.RowKit

/-- spec.DrawTaskValid. -/
theorem drawTaskValid_any (a : Option Addr) (len cap : Nat) (w : World) (hb : Byts w a len cap) :
    Calls Try.prog 12 #[.slice a len cap] w fun e w' => (∃ x y z : Int, e = .returned (.agg #[.int .i64 x, .int .i64 y, .int .i64 z])) ∧ Below w.heap.size w w' := by
  obtain ⟨hb, hc, hm⟩ := hb
  have HB := Lib.hid hb
  clear hb
  go_enter Try.func12, Try.ntmps12
  go_wp2_with fail
  refine (l20Open_any _ _ _ _ ?_ hc hm).mono ?_
  · exact fun k hk => by
      obtain ⟨b, off, ha, hlt, z, hz, hcell⟩ := HB.out k hk
      exact ⟨b, off, ha, by simp; omega, z, hz, ((below_box _ _).cell (p := ⟨b, off + k, none⟩) hlt).trans hcell⟩
  rintro e w1 ⟨rfl, hr, hb1, hs1⟩
  clear hs1
  rw [World.size_alloc] at hr
  have HR := Lib.hid hr
  clear hr
  go_wp2_with fail
  refine (l20Task_any (w.heap.size + 1) 0 2 _ HR.out (by omega)).mono ?_
  rintro e w2 ⟨x, y, z, rfl, hg, _⟩
  have hz1 := hb1.size
  simp at hz1
  have hlt : w.heap.size < w1.heap.size := by omega
  have x0 : w2.cell? ⟨w.heap.size, 0, none⟩ = some (.int .i64 0) := by rw [gb_cell hg (p := ⟨w.heap.size, 0, none⟩) hlt (by simp), hb1.cell (p := ⟨w.heap.size, 0, none⟩) (by simp)]; go_simp
  have x1 : w2.cell? ⟨w.heap.size, 1, none⟩ = some (.int .i64 0) := by rw [gb_cell hg (p := ⟨w.heap.size, 1, none⟩) hlt (by simp), hb1.cell (p := ⟨w.heap.size, 1, none⟩) (by simp)]; go_simp
  have x2 : w2.cell? ⟨w.heap.size, 2, none⟩ = some (.int .i64 0) := by rw [gb_cell hg (p := ⟨w.heap.size, 2, none⟩) hlt (by simp), hb1.cell (p := ⟨w.heap.size, 2, none⟩) (by simp)]; go_simp
  have f0 : w2.frozen? ⟨w.heap.size, 0, none⟩ = false := by rw [gb_frozen hg (p := ⟨w.heap.size, 0, none⟩) hlt (by simp), hb1.frozen (p := ⟨w.heap.size, 0, none⟩) (by simp)]; go_simp
  have f1 : w2.frozen? ⟨w.heap.size, 1, none⟩ = false := by rw [gb_frozen hg (p := ⟨w.heap.size, 1, none⟩) hlt (by simp), hb1.frozen (p := ⟨w.heap.size, 1, none⟩) (by simp)]; go_simp
  have f2 : w2.frozen? ⟨w.heap.size, 2, none⟩ = false := by rw [gb_frozen hg (p := ⟨w.heap.size, 2, none⟩) hlt (by simp), hb1.frozen (p := ⟨w.heap.size, 2, none⟩) (by simp)]; go_simp
  have hbw : Below w.heap.size w w2 := ((below_box _ _).trans (hb1.mono (by simp))).trans (gb_to_below hg (by omega) (by omega))
  go_wp2
  refine bodyPost_ret (v := .agg #[.int .i64 x, .int .i64 y, .int .i64 z]) ?_ rfl ⟨⟨x, y, z, rfl⟩, ((hbw.setCell (Nat.le_refl _) _).setCell (Nat.le_refl _) _).setCell (Nat.le_refl _) _⟩
  simp [results, Try.results12, go_sem, x0, x1, x2]

theorem tv_ext {c d p : Int} (h : tvB c d p = true) : tvB c d 12 = true ∧ tvB c (p + 1) p = false ∧ tvB (d + 1) d p = false := by
  have := (tvB_iff c d p).1 h
  refine ⟨(tvB_iff _ _ _).2 (by omega), ?_, ?_⟩
  · rw [Bool.eq_false_iff]; intro h'; have := (tvB_iff _ _ _).1 h'; omega
  · rw [Bool.eq_false_iff]; intro h'; have := (tvB_iff _ _ _).1 h'; omega

set_option maxHeartbeats 1000000 in
/-- laws.FnTaskValid. -/
theorem fnTaskValid_any (a : Option Addr) (len cap : Nat) (w : World) (hb : Byts w a len cap) :
    Calls Try.prog 3 #[.slice a len cap] w fun e w' => e = .returned (.bool true) ∧ Below w.heap.size w w' := by
  have hm : cap ≤ maxLen := hb.2.2
  have hlc : len ≤ cap := hb.2.1
  unfold maxLen at hm
  have HB := Lib.hid hb
  clear hb
  by_cases hl : 1048576 < len
  · have hl' : (1048576 : Int) < len := by omega
    go_enter Try.func3, Try.ntmps3
    go_wp2
    go_ret
    exact ⟨rfl, Below.refl _ _⟩
  have hl' : ¬ (1048576 : Int) < len := by omega
  go_enter Try.func3, Try.ntmps3
  go_wp2_with fail
  refine (drawTaskValid_any _ _ _ _ HB.out).mono ?_
  rintro e w1 ⟨⟨c, d, p, rfl⟩, b1⟩
  have B1 := b1.alloc b1.size (.cells #[.int .i64 c, .int .i64 d, .int .i64 p] 24)
  go_wp2_with fail
  refine (taskValid_any _ _ _ _).mono ?_
  rintro e w2 ⟨rfl, b2⟩
  have B2 := B1.trans (b2.mono B1.size)
  have x0 : w2.cell? ⟨w1.heap.size, 0, none⟩ = some (.int .i64 c) := by rw [b2.cell (p := ⟨w1.heap.size, 0, none⟩) (by simp)]; go_simp
  have x1 : w2.cell? ⟨w1.heap.size, 1, none⟩ = some (.int .i64 d) := by rw [b2.cell (p := ⟨w1.heap.size, 1, none⟩) (by simp)]; go_simp
  have x2 : w2.cell? ⟨w1.heap.size, 2, none⟩ = some (.int .i64 p) := by rw [b2.cell (p := ⟨w1.heap.size, 2, none⟩) (by simp)]; go_simp
  have s2 : w1.heap.size < w2.heap.size := by have := b2.size; simp at this; omega
  clear b2
  go_wp2_with fail
  refine (specTaskValid_any _ _ _ _).mono ?_
  rintro e w3 ⟨rfl, b3⟩
  have B3 := B2.trans (b3.mono B2.size)
  have y0 := (b3.cell (p := ⟨w1.heap.size, 0, none⟩) s2).trans x0
  have y1 := (b3.cell (p := ⟨w1.heap.size, 1, none⟩) s2).trans x1
  have y2 := (b3.cell (p := ⟨w1.heap.size, 2, none⟩) s2).trans x2
  have s3 : w1.heap.size < w3.heap.size := Nat.lt_of_lt_of_le s2 b3.size
  clear b3 x0 x1 x2
  by_cases hv : tvB c d p = true
  · obtain ⟨t1, t2, t3⟩ := tv_ext hv
    obtain ⟨q1, q2, q3, q4, q5⟩ := (tvB_iff c d p).1 hv
    go_wp2_with fail
    refine (taskValid_any _ _ _ _).mono ?_
    rintro e w4 ⟨rfl, b4⟩
    have B4 := B3.trans (b4.mono B3.size)
    have z0 := (b4.cell (p := ⟨w1.heap.size, 0, none⟩) s3).trans y0
    have z1 := (b4.cell (p := ⟨w1.heap.size, 1, none⟩) s3).trans y1
    have z2 := (b4.cell (p := ⟨w1.heap.size, 2, none⟩) s3).trans y2
    have s4 : w1.heap.size < w4.heap.size := Nat.lt_of_lt_of_le s3 b4.size
    clear b4 y0 y1 y2
    go_wp2_with fail
    refine (taskValid_any _ _ _ _).mono ?_
    rintro e w5 ⟨rfl, b5⟩
    have B5 := B4.trans (b5.mono B4.size)
    have y0 := (b5.cell (p := ⟨w1.heap.size, 0, none⟩) s4).trans z0
    have y1 := (b5.cell (p := ⟨w1.heap.size, 1, none⟩) s4).trans z1
    have y2 := (b5.cell (p := ⟨w1.heap.size, 2, none⟩) s4).trans z2
    clear b5 z0 z1 z2
    go_wp2_with fail
    refine (taskValid_any _ _ _ _).mono ?_
    rintro e w6 ⟨rfl, b6⟩
    go_wp2
    go_ret
    exact ⟨rfl, B5.trans (b6.mono B5.size)⟩
  · have hv' : tvB c d p = false := by simpa using hv
    clear hv
    go_wp2_with fail
    refine (alive_any _).mono ?_
    rintro e w4 ⟨rfl, b4⟩
    go_wp2
    go_ret
    exact ⟨rfl, B3.trans (b4.mono B3.size)⟩
end Go.Proofs.Ytcpgpioophlaoaa
