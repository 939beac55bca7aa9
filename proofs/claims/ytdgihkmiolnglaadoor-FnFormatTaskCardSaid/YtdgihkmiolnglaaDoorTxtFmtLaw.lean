/- The walk of laws.FnFormatTask over the program's and the reference's contracts: for every two slices of bytes the law returns true. Conditions: those of each theorem (what the library's error variables hold). -/
import Derived.Test.YtdgihkmiolnglaaDoorTxtEx
import Derived.Test.YtdgihkmiolnglaaDoorDrawTxt
namespace Go.Proofs.YtdgihkmiolnglaaDoor
open Go.RowKit Go.Deep

theorem byts_below {w w' : World} {a : Option Addr} {len cap : Nat} (h : Byts w a len cap) (hb : Below w.heap.size w w') : Byts w' a len cap := by
  obtain ⟨h1, h2, h3⟩ := h
  refine ⟨fun k hk => ?_, h2, h3⟩
  obtain ⟨b, off, ha, hlt, z, hz, hc⟩ := h1 k hk
  exact ⟨b, off, ha, Nat.lt_of_lt_of_le hlt hb.size, z, hz, (hb.cell (p := ⟨b, off + k, none⟩) hlt).trans hc⟩

set_option maxRecDepth 100000 in
set_option maxHeartbeats 4000000 in
theorem fnFormatTask_walk (a1 : Option Addr) (len1 cap1 : Nat) (a2 : Option Addr) (len2 cap2 : Nat) (w : World) (hG : ErrsG w) (hb1 : Byts w a1 len1 cap1) (hb2 : Byts w a2 len2 cap2) :
    Calls Tryd.prog 3 #[.slice a1 len1 cap1, .slice a2 len2 cap2] w fun e w' => e = .returned (.bool true) ∧ Below w.heap.size w w' := by
  have hm1 := hb1.2.2
  have hm2 := hb2.2.2
  have hc1 := hb1.2.1
  have hc2 := hb2.2.1
  unfold maxLen at hm1 hm2
  have HB1 := Lib.hid hb1
  have HB2 := Lib.hid hb2
  have HG := Lib.hid hG
  clear hb1 hb2 hG
  by_cases hl1 : 1048576 < len1
  · have hl1' : (1048576 : Int) < len1 := by omega
    clear hl1
    go_enter Tryd.func3, Tryd.ntmps3
    go_wp2
    go_ret
    exact ⟨rfl, Below.refl _ _⟩
  have hl1' : ¬ (1048576 : Int) < len1 := by omega
  by_cases hl2 : 1048576 < len2
  · have hl2' : (1048576 : Int) < len2 := by omega
    clear hl1 hl2
    go_enter Tryd.func3, Tryd.ntmps3
    go_wp2
    go_ret
    exact ⟨rfl, Below.refl _ _⟩
  have hl2' : ¬ (1048576 : Int) < len2 := by omega
  clear hl1 hl2 hc1 hc2 hm1 hm2
  go_enter Tryd.func3, Tryd.ntmps3
  go_wp2_with fail
  refine (drawFormatTask_any _ _ _ _ HB1.out).mono ?_
  rintro e w1 ⟨c, d, p, rfl, b1⟩
  go_wp2_with fail
  obtain ⟨W1, hW1⟩ : ∃ W1, W1 = w1.alloc (.cells #[.int .i64 c, .int .i64 d, .int .i64 p] 24) := ⟨_, rfl⟩
  have bW1 := below_box w1 (.cells #[.int .i64 c, .int .i64 d, .int .i64 p] 24)
  rw [← hW1] at bW1 ⊢
  have l5 : w1.heap.size < W1.heap.size := by rw [hW1]; simp
  have t0 : W1.cell? ⟨w1.heap.size, 0, none⟩ = some (.int .i64 c) := by rw [hW1]; simp [go_sem]
  have t1 : W1.cell? ⟨w1.heap.size, 1, none⟩ = some (.int .i64 d) := by rw [hW1]; simp [go_sem]
  have t2 : W1.cell? ⟨w1.heap.size, 2, none⟩ = some (.int .i64 p) := by rw [hW1]; simp [go_sem]
  have B1 := b1.trans (bW1.mono b1.size)
  clear hW1 b1 bW1
  refine (drawParseTask_any _ _ _ _ (byts_below HB2.out B1)).mono ?_
  rintro e w2 ⟨l, rfl, hl, b2⟩
  have B2 := B1.trans (b2.mono B1.size)
  have t0 := (b2.cell (p := ⟨w1.heap.size, 0, none⟩) l5).trans t0
  have t1 := (b2.cell (p := ⟨w1.heap.size, 1, none⟩) l5).trans t1
  have t2 := (b2.cell (p := ⟨w1.heap.size, 2, none⟩) l5).trans t2
  have l5 := Nat.lt_of_lt_of_le l5 b2.size
  clear b2 B1
  go_wp2_with fail
  refine (formatTask_any _ _ _ _).mono ?_
  rintro e w3 ⟨rfl, b3⟩
  have B3 := B2.trans (b3.mono B2.size)
  have t0 := (b3.cell (p := ⟨w1.heap.size, 0, none⟩) l5).trans t0
  have t1 := (b3.cell (p := ⟨w1.heap.size, 1, none⟩) l5).trans t1
  have t2 := (b3.cell (p := ⟨w1.heap.size, 2, none⟩) l5).trans t2
  have l5 := Nat.lt_of_lt_of_le l5 b3.size
  have G3 := HG.out.below HG.out.lt B3
  clear b3 B2
  go_wp2_with fail
  refine (parseTask_any l _ (by omega) G3).mono ?_
  rintro e w4 ⟨⟨x, y, z, ok, rfl, hP⟩, b4⟩
  have B4 := B3.trans (b4.mono B3.size)
  have t0 := (b4.cell (p := ⟨w1.heap.size, 0, none⟩) l5).trans t0
  have t1 := (b4.cell (p := ⟨w1.heap.size, 1, none⟩) l5).trans t1
  have t2 := (b4.cell (p := ⟨w1.heap.size, 2, none⟩) l5).trans t2
  have l5 := Nat.lt_of_lt_of_le l5 b4.size
  clear b4 B3 G3
  go_wp2_with fail
  obtain ⟨W4, hW4⟩ : ∃ W4, W4 = w4.alloc (.cells #[.int .i64 x, .int .i64 y, .int .i64 z] 24) := ⟨_, rfl⟩
  have bW4 := below_box w4 (.cells #[.int .i64 x, .int .i64 y, .int .i64 z] 24)
  rw [← hW4] at bW4 ⊢
  have l8 : w4.heap.size < W4.heap.size := by rw [hW4]; simp
  have u0 : W4.cell? ⟨w4.heap.size, 0, none⟩ = some (.int .i64 x) := by rw [hW4]; simp [go_sem]
  have u1 : W4.cell? ⟨w4.heap.size, 1, none⟩ = some (.int .i64 y) := by rw [hW4]; simp [go_sem]
  have u2 : W4.cell? ⟨w4.heap.size, 2, none⟩ = some (.int .i64 z) := by rw [hW4]; simp [go_sem]
  have t0 := (bW4.cell (p := ⟨w1.heap.size, 0, none⟩) l5).trans t0
  have t1 := (bW4.cell (p := ⟨w1.heap.size, 1, none⟩) l5).trans t1
  have t2 := (bW4.cell (p := ⟨w1.heap.size, 2, none⟩) l5).trans t2
  have l5 := Nat.lt_of_lt_of_le l5 bW4.size
  have B5 := B4.trans (bW4.mono B4.size)
  clear hW4 bW4 B4
  refine (specParseTask_any l W4 (by omega)).mono ?_
  rintro e w5 ⟨⟨x', y', z', ok', rfl, hP'⟩, b5⟩
  obtain ⟨rfl, rfl, rfl, rfl⟩ := hP.same hP'
  have B6 := B5.trans (b5.mono B5.size)
  have t0 := (b5.cell (p := ⟨w1.heap.size, 0, none⟩) l5).trans t0
  have t1 := (b5.cell (p := ⟨w1.heap.size, 1, none⟩) l5).trans t1
  have t2 := (b5.cell (p := ⟨w1.heap.size, 2, none⟩) l5).trans t2
  have u0 := (b5.cell (p := ⟨w4.heap.size, 0, none⟩) l8).trans u0
  have u1 := (b5.cell (p := ⟨w4.heap.size, 1, none⟩) l8).trans u1
  have u2 := (b5.cell (p := ⟨w4.heap.size, 2, none⟩) l8).trans u2
  have l5 := Nat.lt_of_lt_of_le l5 b5.size
  have l8 := Nat.lt_of_lt_of_le l8 b5.size
  clear b5 B5 hP'
  go_wp2_with fail
  obtain ⟨W5, hW5⟩ : ∃ W5, W5 = w5.alloc (.cells #[.int .i64 x, .int .i64 y, .int .i64 z] 24) := ⟨_, rfl⟩
  have bW5 := below_box w5 (.cells #[.int .i64 x, .int .i64 y, .int .i64 z] 24)
  rw [← hW5] at bW5 ⊢
  have l10 : w5.heap.size < W5.heap.size := by rw [hW5]; simp
  have v0 : W5.cell? ⟨w5.heap.size, 0, none⟩ = some (.int .i64 x) := by rw [hW5]; simp [go_sem]
  have v1 : W5.cell? ⟨w5.heap.size, 1, none⟩ = some (.int .i64 y) := by rw [hW5]; simp [go_sem]
  have v2 : W5.cell? ⟨w5.heap.size, 2, none⟩ = some (.int .i64 z) := by rw [hW5]; simp [go_sem]
  have t0 := (bW5.cell (p := ⟨w1.heap.size, 0, none⟩) l5).trans t0
  have t1 := (bW5.cell (p := ⟨w1.heap.size, 1, none⟩) l5).trans t1
  have t2 := (bW5.cell (p := ⟨w1.heap.size, 2, none⟩) l5).trans t2
  have u0 := (bW5.cell (p := ⟨w4.heap.size, 0, none⟩) l8).trans u0
  have u1 := (bW5.cell (p := ⟨w4.heap.size, 1, none⟩) l8).trans u1
  have u2 := (bW5.cell (p := ⟨w4.heap.size, 2, none⟩) l8).trans u2
  have l5 := Nat.lt_of_lt_of_le l5 bW5.size
  have l8 := Nat.lt_of_lt_of_le l8 bW5.size
  have B7 := B6.trans (bW5.mono B6.size)
  clear hW5 bW5 B6
  go_wp2_with fail
  refine (specFormatTask_any _ _ _ _).mono ?_
  rintro e w6 ⟨rfl, b6⟩
  have B8 := B7.trans (b6.mono B7.size)
  have t0 := (b6.cell (p := ⟨w1.heap.size, 0, none⟩) l5).trans t0
  have t1 := (b6.cell (p := ⟨w1.heap.size, 1, none⟩) l5).trans t1
  have t2 := (b6.cell (p := ⟨w1.heap.size, 2, none⟩) l5).trans t2
  have u0 := (b6.cell (p := ⟨w4.heap.size, 0, none⟩) l8).trans u0
  have u1 := (b6.cell (p := ⟨w4.heap.size, 1, none⟩) l8).trans u1
  have u2 := (b6.cell (p := ⟨w4.heap.size, 2, none⟩) l8).trans u2
  have v0 := (b6.cell (p := ⟨w5.heap.size, 0, none⟩) l10).trans v0
  have v1 := (b6.cell (p := ⟨w5.heap.size, 1, none⟩) l10).trans v1
  have v2 := (b6.cell (p := ⟨w5.heap.size, 2, none⟩) l10).trans v2
  have l5 := Nat.lt_of_lt_of_le l5 b6.size
  have l8 := Nat.lt_of_lt_of_le l8 b6.size
  clear b6 B7 l10
  have hF := fmtL_len c d p
  obtain ⟨F, hFF⟩ : ∃ F, F = fmtL c d p := ⟨_, rfl⟩
  rw [← hFF] at hF ⊢
  have HF := Lib.hid hFF
  clear hFF
  cases ok with
  | true =>
    have hI := hP.ok
    have hv : tvB x y z = true := hI.1
    have hx : fmtL x y z = l := hI.2.symm
    have HX := Lib.hid (And.intro hv hx)
    clear hI hv hx hP
    go_wp2_with fail
    refine (taskValid_any x y z _).mono ?_
    rintro e w7 ⟨rfl, b7⟩
    rw [HX.out.1]
    have C0 := B8.trans (b7.mono B8.size)
    have t0 := (b7.cell (p := ⟨w1.heap.size, 0, none⟩) l5).trans t0
    have t1 := (b7.cell (p := ⟨w1.heap.size, 1, none⟩) l5).trans t1
    have t2 := (b7.cell (p := ⟨w1.heap.size, 2, none⟩) l5).trans t2
    have u0 := (b7.cell (p := ⟨w4.heap.size, 0, none⟩) l8).trans u0
    have u1 := (b7.cell (p := ⟨w4.heap.size, 1, none⟩) l8).trans u1
    have u2 := (b7.cell (p := ⟨w4.heap.size, 2, none⟩) l8).trans u2
    have l5 := Nat.lt_of_lt_of_le l5 b7.size
    have l8 := Nat.lt_of_lt_of_le l8 b7.size
    clear b7 B8 v0 v1 v2
    go_wp2_with fail
    refine (formatTask_any x y z _).mono ?_
    rintro e w8 ⟨rfl, b8⟩
    rw [HX.out.2]
    have C1 := C0.trans (b8.mono C0.size)
    have t0 := (b8.cell (p := ⟨w1.heap.size, 0, none⟩) l5).trans t0
    have t1 := (b8.cell (p := ⟨w1.heap.size, 1, none⟩) l5).trans t1
    have t2 := (b8.cell (p := ⟨w1.heap.size, 2, none⟩) l5).trans t2
    have l5 := Nat.lt_of_lt_of_le l5 b8.size
    clear b8 C0 u0 u1 u2 l8
    go_wp2_with fail
    refine (specTaskValid_any c d p _).mono ?_
    rintro e w9 ⟨rfl, b9⟩
    have C2 := C1.trans (b9.mono C1.size)
    have t0 := (b9.cell (p := ⟨w1.heap.size, 0, none⟩) l5).trans t0
    have t1 := (b9.cell (p := ⟨w1.heap.size, 1, none⟩) l5).trans t1
    have t2 := (b9.cell (p := ⟨w1.heap.size, 2, none⟩) l5).trans t2
    have l5 := Nat.lt_of_lt_of_le l5 b9.size
    clear b9 C1
    cases hv : tvB c d p with
    | false =>
      obtain rfl : F = [] := by rw [HF.out, fmtL, if_neg (by rw [hv]; decide)]
      have hbe : (bs ([] : List UInt8)).toList.isEmpty = true := by rw [bs_toList]; rfl
      clear hv HF
      go_wp2_with fail
      refine (alive_any _).mono ?_
      rintro e w10 ⟨rfl, b10⟩
      have C3 := Lib.hid (C2.trans (b10.mono C2.size))
      clear b10 C2 t0 t1 t2 l5
      go_wp2
      go_ret
      exact ⟨rfl, C3.out⟩
    | true =>
      have hI : IsT F c d p := ⟨hv, HF.out⟩
      have G9 := HG.out.below HG.out.lt C2
      clear hv HF
      go_wp2_with fail
      refine (parseTask_any F _ (by omega) G9).mono ?_
      rintro e w10 ⟨⟨c', d', p', ok', rfl, hP⟩, b10⟩
      obtain ⟨rfl, rfl, rfl, rfl⟩ := hP.same (.inl ⟨rfl, hI⟩)
      have C3 := C2.trans (b10.mono C2.size)
      have t0 := (b10.cell (p := ⟨w1.heap.size, 0, none⟩) l5).trans t0
      have t1 := (b10.cell (p := ⟨w1.heap.size, 1, none⟩) l5).trans t1
      have t2 := (b10.cell (p := ⟨w1.heap.size, 2, none⟩) l5).trans t2
      have l5 := Nat.lt_of_lt_of_le l5 b10.size
      have HE := Lib.hid (C3.alloc C3.size (.cells #[.int .i64 c', .int .i64 d', .int .i64 p'] 24))
      have hsF : (bs F).size = F.length := bs_size F
      have hF20 : (F.length : Int) ≤ 20 := by omega
      have hne : (w10.heap.size == w1.heap.size) = false := by rw [beq_eq_false_iff_ne]; omega
      have hne' : w1.heap.size ≠ w10.heap.size := by omega
      clear b10 C2 C3 hP hI G9
      go_wp2
      go_ret
      exact ⟨rfl, HE.out⟩
  | false =>
    obtain ⟨rfl, rfl, rfl⟩ : x = 0 ∧ y = 0 ∧ z = 0 := by
      rcases hP with ⟨h, _⟩ | ⟨_, h1, h2, h3, _⟩
      · cases h
      · exact ⟨h1, h2, h3⟩
    have C1 := B8
    clear hP B8
    go_wp2_with fail
    refine (specTaskValid_any c d p _).mono ?_
    rintro e w9 ⟨rfl, b9⟩
    have C2 := C1.trans (b9.mono C1.size)
    have t0 := (b9.cell (p := ⟨w1.heap.size, 0, none⟩) l5).trans t0
    have t1 := (b9.cell (p := ⟨w1.heap.size, 1, none⟩) l5).trans t1
    have t2 := (b9.cell (p := ⟨w1.heap.size, 2, none⟩) l5).trans t2
    have l5 := Nat.lt_of_lt_of_le l5 b9.size
    clear b9 C1
    cases hv : tvB c d p with
    | false =>
      obtain rfl : F = [] := by rw [HF.out, fmtL, if_neg (by rw [hv]; decide)]
      have hbe : (bs ([] : List UInt8)).toList.isEmpty = true := by rw [bs_toList]; rfl
      clear hv HF
      go_wp2_with fail
      refine (alive_any _).mono ?_
      rintro e w10 ⟨rfl, b10⟩
      have C3 := Lib.hid (C2.trans (b10.mono C2.size))
      clear b10 C2 t0 t1 t2 l5
      go_wp2
      go_ret
      exact ⟨rfl, C3.out⟩
    | true =>
      have hI : IsT F c d p := ⟨hv, HF.out⟩
      have G9 := HG.out.below HG.out.lt C2
      clear hv HF
      go_wp2_with fail
      refine (parseTask_any F _ (by omega) G9).mono ?_
      rintro e w10 ⟨⟨c', d', p', ok', rfl, hP⟩, b10⟩
      obtain ⟨rfl, rfl, rfl, rfl⟩ := hP.same (.inl ⟨rfl, hI⟩)
      have C3 := C2.trans (b10.mono C2.size)
      have t0 := (b10.cell (p := ⟨w1.heap.size, 0, none⟩) l5).trans t0
      have t1 := (b10.cell (p := ⟨w1.heap.size, 1, none⟩) l5).trans t1
      have t2 := (b10.cell (p := ⟨w1.heap.size, 2, none⟩) l5).trans t2
      have l5 := Nat.lt_of_lt_of_le l5 b10.size
      have HE := Lib.hid (C3.alloc C3.size (.cells #[.int .i64 c', .int .i64 d', .int .i64 p'] 24))
      have hsF : (bs F).size = F.length := bs_size F
      have hF20 : (F.length : Int) ≤ 20 := by omega
      have hne : (w10.heap.size == w1.heap.size) = false := by rw [beq_eq_false_iff_ne]; omega
      have hne' : w1.heap.size ≠ w10.heap.size := by omega
      clear b10 C2 C3 hP hI G9
      go_wp2
      go_ret
      exact ⟨rfl, HE.out⟩

end Go.Proofs.YtdgihkmiolnglaaDoor
