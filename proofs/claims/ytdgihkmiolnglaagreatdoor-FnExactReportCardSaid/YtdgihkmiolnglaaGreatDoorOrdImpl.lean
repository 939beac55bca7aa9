/- Contracts of the program's permutation.valid and OrderValid. Conditions: the slices hold what is said, at most 2^20 entries. -/
import Derived.Test.YtdgihkmiolnglaaGreatDoorOrdSpec
import Derived.Test.YtdgihkmiolnglaaGreatDoorMem
import Derived.Test.YtdgihkmiolnglaaGreatDoorBase
namespace Go.Proofs.YtdgihkmiolnglaaGreatDoor
open Go.RowKit Go.Deep

theorem boolInfo : (Tryz.prog.info? 4).map (fun i => (i.zero, i.size, i.bytes)) = some (some (.bool false), 1, 1) := by kernel_rfl
theorem run_make_bools (n : Nat) (hn : n ≤ 1099511627776) (w : World) :
    (Instr.makeSlice 142 (.int .i64 (n : Int)) (.int .i64 (n : Int))).run Tryz.prog w = .ok (.slice (some ⟨w.heap.size, 0, none⟩) n n) (w.alloc (.cells (madeCells #[.bool false] n) 4)) := by
  obtain ⟨i, hi, hz, hs, hb⟩ := info_parts boolInfo
  have h := run_make (P := Tryz.prog) w 142 4 i _ Tryz.underlying142 hi hz .i64 .i64 (n : Int) (n : Int) (by omega) (by omega) (by rw [hb]; omega) (by omega)
  rw [hs] at h
  simpa [Value.cells] using h
/-- Entry i is among the first k values. -/
def seenB (f : Nat → Int) : Nat → Nat → Bool
  | 0, _ => false
  | k + 1, i => seenB f k i || decide (f k = (i : Int))
theorem seenB_iff {f : Nat → Int} {i : Nat} : ∀ {k : Nat}, seenB f k i = true ↔ ∃ j, j < k ∧ f j = (i : Int)
  | 0 => by simp [seenB]
  | k + 1 => by
    simp only [seenB, Bool.or_eq_true, decide_eq_true_eq]
    rw [seenB_iff (k := k)]
    constructor
    · rintro (⟨j, h1, h2⟩ | h)
      · exact ⟨j, by omega, h2⟩
      · exact ⟨k, by omega, h⟩
    · rintro ⟨j, h1, h2⟩
      by_cases e : j = k
      · subst e; exact .inr h2
      · exact .inl ⟨j, by omega, h2⟩

/-- A truth value was returned, of p. -/
def Says (e : Ending) (p : Prop) : Prop := ∃ b, e = .returned (.bool b) ∧ (b = true ↔ p)

set_option maxHeartbeats 1000000 in
/-- impl.permutation.valid. -/
theorem permValid_any (oa : Option Addr) (ocap n : Nat) (f : Nat → Int) (w : World) (hf : IntF w oa n f) (hn : n ≤ 1048576) :
    Calls Tryz.prog 108 #[.slice oa n ocap] w fun e w' =>
      Says e (ordF f n n) ∧ Below w.heap.size w w' := by
  have hmk := run_make_bools n (by omega)
  have HF := Lib.hid hf
  clear hf
  go_enter Tryz.func108, Tryz.ntmps108
  go_wp2
  clear hmk
  go_loopg [11] n (fun m i wr => ∃ k : Nat, m + k = n ∧ i = .int .i64 k ∧ ordF f n k ∧ wr.rowIs w.heap.size 4 n (fun j => .bool (seenB f k j)) ∧ Below w.heap.size w wr)
  case atStart => exact ⟨0, rfl, rfl, fun j hj => by omega, World.rowIs_made w (.bool false) n 4, below_box _ _⟩
  case round =>
    obtain ⟨k, hk, rfl, hall, hrow, hb⟩ := hrel
    have HK := Lib.hid hk
    have HA := Lib.hid hall
    have HW := Lib.hid hrow
    have hk' : k ≤ n := by omega
    clear hk hall hrow
    by_cases hlt : k < n
    · have RF := Lib.hid (HF.out.below hb)
      obtain ⟨b, off, rfl, hbs, c0⟩ := RF.out k hlt
      obtain ⟨y, hy⟩ : ∃ y, y = f k := ⟨_, rfl⟩
      rw [← hy] at c0
      have HY := Lib.hid hy
      clear hy
      by_cases h0 : y < 0
      · go_wp2
        go_ret
        exact ⟨⟨false, rfl, ⟨fun h => by simp at h, fun h => by have := (h k hlt).1; rw [← HY.out] at this; omega⟩⟩, hb⟩
      · by_cases h1 : (n : Int) ≤ y
        · go_wp2
          go_ret
          exact ⟨⟨false, rfl, ⟨fun h => by simp at h, fun h => by have := (h k hlt).1; rw [← HY.out] at this; omega⟩⟩, hb⟩
        · obtain ⟨i, rfl⟩ : ∃ i : Nat, y = i := ⟨y.toNat, by omega⟩
          have hin : i < n := by omega
          have hi1 : (i : Int) < n := by omega
          have hi0 : (0 : Int) ≤ i := by omega
          have h1' : ¬ (n : Int) ≤ i := by omega
          have h0' : ¬ (i : Int) < 0 := by omega
          have z0 := HW.out.cell hin
          have z1 := HW.out.frozen i
          cases hs : seenB f k i with
          | true =>
            rw [hs] at z0
            have HS := Lib.hid (seenB_iff.1 hs)
            clear hs h0 h1
            go_wp2
            go_ret
            refine ⟨⟨false, rfl, ⟨fun h => by simp at h, fun h => ?_⟩⟩, hb⟩
            obtain ⟨j, h1, h2⟩ := HS.out
            exact absurd (h2.trans HY.out) ((h k hlt).2 j h1)
          | false =>
            rw [hs] at z0
            have HS := Lib.hid hs
            clear hs h0 h1
            go_wp2
            go_roundg (gk - 1)
            case measure => have := HK.out; omega
            case rel =>
              refine ⟨k + 1, by have := HK.out; omega, by go_num, fun j hj => ?_, (HW.out.set i (.bool true)).congr (fun j _ => ?_), hb.setCell (Nat.le_refl _) _⟩
              · by_cases e : j = k
                · subst e
                  rw [← HY.out]
                  refine ⟨⟨hi0, hi1⟩, fun m hm e2 => ?_⟩
                  have := (seenB_iff (k := j) (i := i) (f := f)).2 ⟨m, hm, e2⟩
                  rw [HS.out] at this
                  simp at this
                · exact HA.out j (by omega)
              · simp only [seenB]
                rw [← HY.out]
                by_cases e : j = i
                · subst e; simp
                · rw [if_neg e, decide_eq_false (by omega), Bool.or_false]
    · obtain rfl : k = n := by omega
      go_wp2
      go_ret
      exact ⟨⟨true, rfl, ⟨fun _ => HA.out, fun _ => rfl⟩⟩, hb⟩

/-- impl.OrderValid. -/
theorem orderValid_any (ta oa : Option Addr) (tcap ocap : Nat) (ts : List T3) (os : List Int) (w : World) (hr : Row w ta ts) (ho : IntF w oa os.length fun k => os.getD k 0) (hn : ts.length ≤ 1099511627776) :
    Calls Tryz.prog 83 #[.slice ta ts.length tcap, .slice oa os.length ocap] w fun e w' =>
      e = .returned (.bool (ordB ts os)) ∧ Below w.heap.size w w' := by
  have HR := Lib.hid hr
  have HO := Lib.hid ho
  clear hr ho
  cases hs : svB ts with
  | false =>
    have hv : ordB ts os = false := by simp [ordB, hs]
    go_enter Tryz.func83, Tryz.ntmps83
    go_wp2_with (go_at_call 42; refine (setValid_any _ _ ts _ HR.out hn).mono ?_; rintro e w1 ⟨rfl, hb1⟩; rw [hs])
    go_ret
    exact ⟨ret_bool hv.symm, hb1⟩
  | true =>
    by_cases hl : os.length = ts.length
    · have hl5 := (sv_all hs).2
      have hol : os.length ≤ 5 := by omega
      have hl' : ((os.length : Int) == ts.length) = true := by simp; omega
      have HV := Lib.hid (show ordB ts os = true ↔ ordF (fun k => os.getD k 0) os.length os.length by have := ordF_list hs hl; rw [hl] at this ⊢; exact this)
      go_enter Tryz.func83, Tryz.ntmps83
      go_wp2_with fail
      refine (setValid_any _ _ ts _ HR.out hn).mono ?_
      rintro e w1 ⟨rfl, b1⟩
      rw [hs]
      clear hl
      go_wp2_with fail
      refine (permValid_any _ _ _ _ _ (HO.out.below b1) (by omega)).mono ?_
      rintro e w2 ⟨⟨b, rfl, hb⟩, b2⟩
      have HB := Lib.hid hb
      clear hb
      go_wp2
      go_ret
      refine ⟨ret_bool ?_, b1.trans (b2.mono b1.size)⟩
      rw [Bool.eq_iff_iff, HB.out, HV.out]
    · have hv : ordB ts os = false := by
        rw [Bool.eq_false_iff]
        exact fun h => hl (ordB_iff.1 h).2.1
      have hl' : ((os.length : Int) == ts.length) = false := by simp; omega
      clear hl
      go_enter Tryz.func83, Tryz.ntmps83
      go_wp2_with (go_at_call 42; refine (setValid_any _ _ ts _ HR.out hn).mono ?_; rintro e w1 ⟨rfl, hb1⟩; rw [hs])
      go_ret
      exact ⟨ret_bool hv.symm, hb1⟩

end Go.Proofs.YtdgihkmiolnglaaGreatDoor
