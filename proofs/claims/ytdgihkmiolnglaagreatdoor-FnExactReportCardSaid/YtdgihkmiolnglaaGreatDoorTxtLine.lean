/- The program's textLine: contracts of word, number, text; then FormatTask. Conditions: those of each theorem. -/
import Derived.Test.YtdgihkmiolnglaaGreatDoorTxtBld
import Derived.Test.YtdgihkmiolnglaaGreatDoorTxtTask
import Derived.Lib.AppendIntMem
namespace Go.Proofs.YtdgihkmiolnglaaGreatDoor
open Go.RowKit Go.Deep

/-- What the program asks of the table of powers of ten where it writes the number n. -/
def TabG (n : Nat) (w : World) : Prop := n < 100 ∨ Lib.TabIs Tryz.prog w "internal/strconv.uint64pow10" .u64 Lib.pow10Tab
theorem itoa_any (n : Nat) (w : World) (hn : n < 1000000000000) (hT : TabG n w) :
    Calls Tryz.prog 52 #[.int .i64 (n : Int)] w fun e w' => e = .returned (.string (bs (Lib.decDigits n))) ∧ Below w.heap.size w w' := by
  rcases hT with h | h
  · refine (Tryz.strconv_Itoa_small n h w).mono ?_
    rintro e w' ⟨rfl, rfl⟩
    exact ⟨rfl, Below.refl _ _⟩
  · refine (Tryz.strconv_Itoa (n : Int) (by omega) (by omega) w h).mono ?_
    rintro e w' ⟨rfl, k, os, rfl⟩
    refine ⟨?_, Lib.below_grow _ w (Nat.le_refl _) k os⟩
    unfold Lib.itoa
    rw [if_neg (by omega), Int.toNat_natCast]
    rfl
/-- A word behind what the line holds. -/
def jw (l m : List UInt8) : List UInt8 := if l = [] then m else (l ++ [32]) ++ m
theorem jw_nil (m : List UInt8) : jw [] m = m := if_pos rfl
theorem jw_more {l : List UInt8} (h : l ≠ []) (m : List UInt8) : jw l m = (l ++ [32]) ++ m := if_neg h
theorem jw_len (l m : List UInt8) : (jw l m).length ≤ l.length + 1 + m.length := by
  unfold jw; split
  · simp
  · simp only [List.length_append, List.length_cons, List.length_nil]; omega
theorem jw_ne {l m : List UInt8} (h : m ≠ []) : jw l m ≠ [] := by
  unfold jw; split
  · exact h
  · simp

set_option maxRecDepth 100000 in
set_option maxHeartbeats 1000000 in
theorem word_k (B b : Nat) (l m : List UInt8) (w : World) (h : TL B b l w) (hlen : l.length + m.length + 1 ≤ 140737488355328) (hBw : B ≤ w.heap.size) :
    Calls Tryz.prog 48 #[.pointer (some ⟨b, 0, none⟩), .string (bs m)] w fun e w' => e = .returned (.tuple #[]) ∧ TU B b (jw l m) w' ∧ Below B w w' ∧ Lib.OthersKept 5 (some b) w w' := by
  by_cases h0 : l = []
  · subst h0
    have hz : ¬ (0 : Int) < (([] : List UInt8).length : Nat) := by simp
    go_enter Tryz.func48, Tryz.ntmps48
    go_wp2_with fail
    refine (bldLen_any B b [] _ h).mono ?_
    rintro e w1 ⟨rfl, rfl⟩
    go_wp2_with fail
    refine (bldStr_k B b [] m _ h (by simp only [List.length_nil] at hlen ⊢; omega) hBw).mono ?_
    rintro e w2 ⟨rfl, h2, b2, k2⟩
    have H2 := Lib.hid (And.intro h2 (And.intro b2 k2))
    clear h2 b2 k2
    go_wp2
    go_end0
    exact ⟨rfl, H2.out.1, H2.out.2.1, H2.out.2.2⟩
  · have hz : (0 : Int) < (l.length : Nat) := by
      have : l.length ≠ 0 := by simpa using h0
      omega
    rw [jw_more h0]
    clear h0
    go_enter Tryz.func48, Tryz.ntmps48
    go_wp2_with fail
    refine (bldLen_any B b l _ h).mono ?_
    rintro e w1 ⟨rfl, rfl⟩
    go_wp2_with fail
    refine (bldByte_k B b l 32 _ h (by omega) hBw).mono ?_
    rintro e w2 ⟨rfl, h2, b2, k2⟩
    go_wp2_with fail
    refine (bldStr_k B b (l ++ [32]) m _ h2.tl (by rw [List.length_append, List.length_singleton]; omega) (Nat.le_trans hBw b2.size)).mono ?_
    rintro e w3 ⟨rfl, h3, b3, k3⟩
    have H3 := Lib.hid (And.intro h3 (And.intro (b2.trans b3) (k2.trans k3)))
    clear h2 b2 h3 b3 k2 k3
    go_wp2
    go_end0
    exact ⟨rfl, H3.out.1, H3.out.2.1, H3.out.2.2⟩

theorem word_any (B b : Nat) (l m : List UInt8) (w : World) (h : TL B b l w) (hlen : l.length + m.length + 1 ≤ 140737488355328) (hBw : B ≤ w.heap.size) :
    Calls Tryz.prog 48 #[.pointer (some ⟨b, 0, none⟩), .string (bs m)] w fun e w' => e = .returned (.tuple #[]) ∧ TU B b (jw l m) w' ∧ Below B w w' :=
  (word_k B b l m w h hlen hBw).mono fun _ _ ⟨h1, h2, h3, _⟩ => ⟨h1, h2, h3⟩
theorem others_of_below {w w' : World} {e : TypeId} {b : Option Nat} (h : Below w.heap.size w w') : Lib.OthersKept e b w w' := fun i _ hi _ _ => (h.block i (Array.getElem?_eq_some_iff.1 hi).1).trans hi

set_option maxRecDepth 100000 in
set_option maxHeartbeats 1000000 in
theorem number_k (B b : Nat) (l : List UInt8) (n : Nat) (w : World) (h : TL B b l w) (hlen : l.length ≤ 1000000000) (hn : n < 1000000000000) (hT : TabG n w) (hBw : B ≤ w.heap.size) :
    Calls Tryz.prog 49 #[.pointer (some ⟨b, 0, none⟩), .int .i64 (n : Int)] w fun e w' => e = .returned (.tuple #[]) ∧ TU B b (jw l (Lib.decDigits n)) w' ∧ Below B w w' ∧ Lib.OthersKept 5 (some b) w w' := by
  have hd := dec_len_big 11 n (by omega)
  go_enter Tryz.func49, Tryz.ntmps49
  go_wp2_with fail
  refine (itoa_any n _ hn hT).mono ?_
  rintro e w1 ⟨rfl, b1⟩
  go_wp2_with fail
  refine (word_k B b l (Lib.decDigits n) _ (h.below b1) (by omega) (Nat.le_trans hBw b1.size)).mono ?_
  rintro e w2 ⟨rfl, h2, b2, k2⟩
  have H2 := Lib.hid (And.intro h2 (And.intro ((b1.mono hBw).trans b2) ((others_of_below b1).trans k2)))
  clear h2 b2 b1 k2 hd
  go_wp2
  go_end0
  exact ⟨rfl, H2.out.1, H2.out.2.1, H2.out.2.2⟩

theorem number_any (B b : Nat) (l : List UInt8) (n : Nat) (w : World) (h : TL B b l w) (hlen : l.length ≤ 1000000000) (hn : n < 1000000000000) (hT : TabG n w) (hBw : B ≤ w.heap.size) :
    Calls Tryz.prog 49 #[.pointer (some ⟨b, 0, none⟩), .int .i64 (n : Int)] w fun e w' => e = .returned (.tuple #[]) ∧ TU B b (jw l (Lib.decDigits n)) w' ∧ Below B w w' :=
  (number_k B b l n w h hlen hn hT hBw).mono fun _ _ ⟨h1, h2, h3, _⟩ => ⟨h1, h2, h3⟩

set_option maxRecDepth 100000 in
set_option maxHeartbeats 1000000 in
theorem text_any (B b : Nat) (l : List UInt8) (w : World) (h : TL B b l w) (h0 : l ≠ []) :
    Calls Tryz.prog 50 #[.pointer (some ⟨b, 0, none⟩)] w fun e w' => e = .returned (.string (bs l)) ∧ Below B w w' := by
  go_enter Tryz.func50, Tryz.ntmps50
  go_wp2_with fail
  refine (bldText_any B b l _ h h0).mono ?_
  rintro e w1 ⟨rfl, b1⟩
  have B1 := Lib.hid b1
  clear b1
  go_wp2
  go_ret
  exact ⟨rfl, B1.out⟩

end Go.Proofs.YtdgihkmiolnglaaGreatDoor
