/- The program's textLine: contracts of word, number, text; then FormatTask. Conditions: those of each theorem. -/
import Derived.Test.YtdgihkmiolnglaaDoorTxtBld
import Derived.Test.YtdgihkmiolnglaaDoorTxtTask
import Derived.Lib.AppendIntMem
namespace Go.Proofs.YtdgihkmiolnglaaDoor
open Go.RowKit Go.Deep

/-- What the program asks of the table of powers of ten where it writes the number n. -/
def TabG (n : Nat) (w : World) : Prop := n < 100 ∨ Lib.TabIs Tryd.prog w "internal/strconv.uint64pow10" .u64 Lib.pow10Tab
theorem itoa_any (n : Nat) (w : World) (hn : n < 1000000000000) (hT : TabG n w) :
    Calls Tryd.prog 36 #[.int .i64 (n : Int)] w fun e w' => e = .returned (.string (bs (Lib.decDigits n))) ∧ Below w.heap.size w w' := by
  rcases hT with h | h
  · refine (Tryd.strconv_Itoa_small n h w).mono ?_
    rintro e w' ⟨rfl, rfl⟩
    exact ⟨rfl, Below.refl _ _⟩
  · refine (Tryd.strconv_Itoa (n : Int) (by omega) (by omega) w h).mono ?_
    rintro e w' ⟨rfl, k, os, rfl⟩
    refine ⟨?_, Lib.below_grow _ w (Nat.le_refl _) k os⟩
    unfold Lib.itoa
    rw [if_neg (by omega), Int.toNat_natCast]
    rfl
/-- A word behind what the line holds. -/
def jw (l m : List UInt8) : List UInt8 := if l = [] then m else (l ++ [32]) ++ m
theorem jw_nil (m : List UInt8) : jw [] m = m := if_pos rfl
theorem jw_more {l : List UInt8} (h : l ≠ []) (m : List UInt8) : jw l m = (l ++ [32]) ++ m := if_neg h
theorem jw_len (l m : List UInt8) : (jw l m).length ≤ l.length + 1 + m.length := by
  unfold jw; split
  · simp
  · simp only [List.length_append, List.length_cons, List.length_nil]; omega
theorem jw_ne {l m : List UInt8} (h : m ≠ []) : jw l m ≠ [] := by
  unfold jw; split
  · exact h
  · simp

set_option maxRecDepth 100000 in
set_option maxHeartbeats 1000000 in
theorem word_k (B b : Nat) (l m : List UInt8) (w : World) (h : TL B b l w) (hlen : l.length + m.length + 1 ≤ 140737488355328) (hBw : B ≤ w.heap.size) :
    Calls Tryd.prog 22 #[.pointer (some ⟨b, 0, none⟩), .string (bs m)] w fun e w' => e = .returned (.tuple #[]) ∧ TU B b (jw l m) w' ∧ Below B w w' ∧ Lib.OthersKept 5 (some b) w w' := by
  by_cases h0 : l = []
  · subst h0
    have hz : ¬ (0 : Int) < (([] : List UInt8).length : Nat) := by simp
    go_enter Tryd.func22, Tryd.ntmps22
    go_wp2_with fail
    refine (bldLen_any B b [] _ h).mono ?_
    rintro e w1 ⟨rfl, rfl⟩
    go_wp2_with fail
    refine (bldStr_k B b [] m _ h (by simp only [List.length_nil] at hlen ⊢; omega) hBw).mono ?_
    rintro e w2 ⟨rfl, h2, b2, k2⟩
    have H2 := Lib.hid (And.intro h2 (And.intro b2 k2))
    clear h2 b2 k2
    go_wp2
    go_end0
    exact ⟨rfl, H2.out.1, H2.out.2.1, H2.out.2.2⟩
  · have hz : (0 : Int) < (l.length : Nat) := by
      have : l.length ≠ 0 := by simpa using h0
      omega
    rw [jw_more h0]
    clear h0
    go_enter Tryd.func22, Tryd.ntmps22
    go_wp2_with fail
    refine (bldLen_any B b l _ h).mono ?_
    rintro e w1 ⟨rfl, rfl⟩
    go_wp2_with fail
    refine (bldByte_k B b l 32 _ h (by omega) hBw).mono ?_
    rintro e w2 ⟨rfl, h2, b2, k2⟩
    go_wp2_with fail
    refine (bldStr_k B b (l ++ [32]) m _ h2.tl (by rw [List.length_append, List.length_singleton]; omega) (Nat.le_trans hBw b2.size)).mono ?_
    rintro e w3 ⟨rfl, h3, b3, k3⟩
    have H3 := Lib.hid (And.intro h3 (And.intro (b2.trans b3) (k2.trans k3)))
    clear h2 b2 h3 b3 k2 k3
    go_wp2
    go_end0
    exact ⟨rfl, H3.out.1, H3.out.2.1, H3.out.2.2⟩

theorem word_any (B b : Nat) (l m : List UInt8) (w : World) (h : TL B b l w) (hlen : l.length + m.length + 1 ≤ 140737488355328) (hBw : B ≤ w.heap.size) :
    Calls Tryd.prog 22 #[.pointer (some ⟨b, 0, none⟩), .string (bs m)] w fun e w' => e = .returned (.tuple #[]) ∧ TU B b (jw l m) w' ∧ Below B w w' :=
  (word_k B b l m w h hlen hBw).mono fun _ _ ⟨h1, h2, h3, _⟩ => ⟨h1, h2, h3⟩
theorem others_of_below {w w' : World} {e : TypeId} {b : Option Nat} (h : Below w.heap.size w w') : Lib.OthersKept e b w w' := fun i _ hi _ _ => (h.block i (Array.getElem?_eq_some_iff.1 hi).1).trans hi

set_option maxRecDepth 100000 in
set_option maxHeartbeats 1000000 in
theorem number_k (B b : Nat) (l : List UInt8) (n : Nat) (w : World) (h : TL B b l w) (hlen : l.length ≤ 1000000000) (hn : n < 1000000000000) (hT : TabG n w) (hBw : B ≤ w.heap.size) :
    Calls Tryd.prog 23 #[.pointer (some ⟨b, 0, none⟩), .int .i64 (n : Int)] w fun e w' => e = .returned (.tuple #[]) ∧ TU B b (jw l (Lib.decDigits n)) w' ∧ Below B w w' ∧ Lib.OthersKept 5 (some b) w w' := by
  have hd := dec_len_big 11 n (by omega)
  go_enter Tryd.func23, Tryd.ntmps23
  go_wp2_with fail
  refine (itoa_any n _ hn hT).mono ?_
  rintro e w1 ⟨rfl, b1⟩
  go_wp2_with fail
  refine (word_k B b l (Lib.decDigits n) _ (h.below b1) (by omega) (Nat.le_trans hBw b1.size)).mono ?_
  rintro e w2 ⟨rfl, h2, b2, k2⟩
  have H2 := Lib.hid (And.intro h2 (And.intro ((b1.mono hBw).trans b2) ((others_of_below b1).trans k2)))
  clear h2 b2 b1 k2 hd
  go_wp2
  go_end0
  exact ⟨rfl, H2.out.1, H2.out.2.1, H2.out.2.2⟩

theorem number_any (B b : Nat) (l : List UInt8) (n : Nat) (w : World) (h : TL B b l w) (hlen : l.length ≤ 1000000000) (hn : n < 1000000000000) (hT : TabG n w) (hBw : B ≤ w.heap.size) :
    Calls Tryd.prog 23 #[.pointer (some ⟨b, 0, none⟩), .int .i64 (n : Int)] w fun e w' => e = .returned (.tuple #[]) ∧ TU B b (jw l (Lib.decDigits n)) w' ∧ Below B w w' :=
  (number_k B b l n w h hlen hn hT hBw).mono fun _ _ ⟨h1, h2, h3, _⟩ => ⟨h1, h2, h3⟩

set_option maxRecDepth 100000 in
set_option maxHeartbeats 1000000 in
theorem text_any (B b : Nat) (l : List UInt8) (w : World) (h : TL B b l w) (h0 : l ≠ []) :
    Calls Tryd.prog 24 #[.pointer (some ⟨b, 0, none⟩)] w fun e w' => e = .returned (.string (bs l)) ∧ Below B w w' := by
  go_enter Tryd.func24, Tryd.ntmps24
  go_wp2_with fail
  refine (bldText_any B b l _ h h0).mono ?_
  rintro e w1 ⟨rfl, b1⟩
  have B1 := Lib.hid b1
  clear b1
  go_wp2
  go_ret
  exact ⟨rfl, B1.out⟩

set_option maxRecDepth 100000 in
set_option maxHeartbeats 1000000 in
/-- impl.FormatTask. -/
theorem formatTask_any (c d p : Int) (w : World) :
    Calls Tryd.prog 8 #[.agg #[.int .i64 c, .int .i64 d, .int .i64 p]] w fun e w' => e = .returned (.string (bs (fmtL c d p))) ∧ Below w.heap.size w w' := by
  obtain ⟨W, hW⟩ : ∃ W, W = w.alloc (.cells #[.int .i64 c, .int .i64 d, .int .i64 p] 24) := ⟨_, rfl⟩
  have BW : Below w.heap.size w W := by rw [hW]; exact below_box _ _
  have c0 : W.cell? ⟨w.heap.size, 0, none⟩ = some (.int .i64 c) := by rw [hW]; simp [go_sem]
  have c1 : W.cell? ⟨w.heap.size, 1, none⟩ = some (.int .i64 d) := by rw [hW]; simp [go_sem]
  have c2 : W.cell? ⟨w.heap.size, 2, none⟩ = some (.int .i64 p) := by rw [hW]; simp [go_sem]
  have hlt : w.heap.size < W.heap.size := by rw [hW]; simp
  have HW := Lib.hid hW
  have HB := Lib.hid BW
  clear hW BW
  cases hv : tvB c d p with
  | false =>
    have HF := Lib.hid (show fmtL c d p = [] by rw [fmtL, if_neg (by rw [hv]; decide)])
    go_enter Tryd.func8, Tryd.ntmps8
    go_wp2_with fail
    rw [← HW.out]
    go_wp2_with fail
    refine (valid_any c d p _).mono ?_
    rintro e w1 ⟨rfl, b1⟩
    rw [hv]
    have B1 := Lib.hid (HB.out.trans (b1.mono HB.out.size))
    clear b1 c0 c1 c2
    go_wp2
    go_ret
    exact ⟨ret_str (l := []) HF.out.symm, B1.out⟩
  | true =>
    obtain ⟨x, y, z, rfl, rfl, rfl, q1, q2, q3, q4, q5⟩ := tvB_nat hv
    have HF := Lib.hid (show fmtL x y z = fmtT x y z by rw [fmtL, if_pos hv]; rfl)
    go_enter Tryd.func8, Tryd.ntmps8
    go_wp2_with fail
    rw [← HW.out]
    go_wp2_with fail
    refine (valid_any x y z _).mono ?_
    rintro e w1 ⟨rfl, b1⟩
    rw [hv]
    have B1 := Lib.hid (HB.out.trans (b1.mono HB.out.size))
    have hW1 := b1.size
    have cl : ∀ j, w1.cell? ⟨w.heap.size, j, none⟩ = W.cell? ⟨w.heap.size, j, none⟩ := fun j => b1.cell (p := ⟨w.heap.size, j, none⟩) hlt
    rw [← cl 0] at c0
    rw [← cl 1] at c1
    rw [← cl 2] at c2
    have hl1 : w.heap.size < w1.heap.size := by omega
    clear b1 cl HW hv
    have hT := TL.fresh w1
    have hbx := below_box w1 (.cells #[.pointer none, .slice none 0 0] 48)
    obtain ⟨b, hb⟩ : ∃ b, b = w1.heap.size := ⟨_, rfl⟩
    have hsz : (w1.alloc (.cells #[.pointer none, .slice none 0 0] 48)).heap.size = b + 1 := by rw [hb]; simp
    subst hb
    go_wp2_with fail
    refine (word_any _ _ [] kwT _ hT (by decide) (by omega)).mono ?_
    rintro e w2 ⟨rfl, h2, b2⟩
    rw [jw_nil] at h2
    have g2 := hbx.trans b2
    have s2 := b2.size
    have p0 := (g2.cell (p := ⟨w.heap.size, 0, none⟩) (by simp only; omega)).trans c0
    have dx := dec_len_small (show x < 100 by omega)
    have dy := dec_len_small (show y < 100 by omega)
    have dz := dec_len_small (show z < 100 by omega)
    have j1 := jw_len kwT (Lib.decDigits x)
    have j2 := jw_len (jw kwT (Lib.decDigits x)) (Lib.decDigits y)
    have j3 := jw_len (jw (jw kwT (Lib.decDigits x)) (Lib.decDigits y)) (Lib.decDigits z)
    have j0 : kwT.length = 4 := rfl
    have hbw : w.heap.size ≤ w1.heap.size := by omega
    clear hT hbx
    go_wp2_with fail
    refine (number_any _ _ kwT x _ h2.tl (by omega) (by omega) (.inl (by omega)) (by omega)).mono ?_
    rintro e w3 ⟨rfl, h3, b3⟩
    have g3 := g2.trans b3
    have s3 := b3.size
    have p1 := (g3.cell (p := ⟨w.heap.size, 1, none⟩) (by simp only; omega)).trans c1
    clear h2 b2 b3 g2 p0 c0 c1
    go_wp2_with fail
    refine (number_any _ _ _ y _ h3.tl (by omega) (by omega) (.inl (by omega)) (by omega)).mono ?_
    rintro e w4 ⟨rfl, h4, b4⟩
    have g4 := g3.trans b4
    have s4 := b4.size
    have p2 := (g4.cell (p := ⟨w.heap.size, 2, none⟩) (by simp only; omega)).trans c2
    clear h3 b4 g3 p1 c2
    go_wp2_with fail
    refine (number_any _ _ _ z _ h4.tl (by omega) (by omega) (.inl (by omega)) (by omega)).mono ?_
    rintro e w5 ⟨rfl, h5, b5⟩
    have g5 := g4.trans b5
    have s5 := b5.size
    clear h4 b5 g4 p2
    have hne : jw (jw (jw kwT (Lib.decDigits x)) (Lib.decDigits y)) (Lib.decDigits z) ≠ [] := jw_ne (dec_ne_nil z)
    go_wp2_with fail
    refine (text_any _ _ _ _ h5.tl hne).mono ?_
    rintro e w6 ⟨rfl, b6⟩
    have hfin : fmtL x y z = jw (jw (jw kwT (Lib.decDigits x)) (Lib.decDigits y)) (Lib.decDigits z) := by
      rw [HF.out, jw_more (l := jw (jw kwT (Lib.decDigits x)) (Lib.decDigits y)) (jw_ne (dec_ne_nil y)), jw_more (l := jw kwT (Lib.decDigits x)) (jw_ne (dec_ne_nil x)), jw_more (l := kwT) (by decide), fmtT]
      simp
    have HE := Lib.hid (And.intro hfin (B1.out.trans ((g5.trans b6).mono hbw)))
    clear hfin b6 g5 h5 hne
    go_wp2
    go_ret
    exact ⟨ret_str HE.out.1.symm, HE.out.2⟩

end Go.Proofs.YtdgihkmiolnglaaDoor
