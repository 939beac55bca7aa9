/- Contracts of the exact laws' helpers on slices of strings: laws.szStringS, toStringS, eqStringS, markText, markStringS, heldStringS. Conditions: those of each theorem. -/
import Derived.Test.YtdgihkmiolnglaaGreatDoorTxtSpec
import Derived.Test.YtdgihkmiolnglaaGreatDoorBase
import Derived.Test.YtdgihkmiolnglaaGreatDoorRead
import Derived.BigQuiet
namespace Go.Proofs.YtdgihkmiolnglaaGreatDoor
open Go.RowKit Go.Deep

/-- laws.szStringS: what is left; where something is left the slice and its strings are small. -/
def Sized (ls : List (List UInt8)) (w : World) (e : Ending) (w' : World) : Prop :=
  ∃ r : Int, e = .returned (.int .i64 r) ∧ w = w' ∧ (0 ≤ r → ls.length ≤ 1048576 ∧ ∀ j, j < ls.length → (ln ls j).length ≤ 1048576)
set_option maxRecDepth 100000 in
set_option maxHeartbeats 1000000 in
theorem szStringS_any (a : Option Addr) (cap : Nat) (ls : List (List UInt8)) (w : World) (hr : RowL w a ls) (hm : ls.length ≤ maxLen) (hs : ∀ j, j < ls.length → (ln ls j).length ≤ maxLen) :
    Calls Tryz.prog 13 #[.slice a ls.length cap, .int .i64 1048576] w (Sized ls w) := by
  unfold maxLen at hm
  have HS := Lib.hid (show ∀ j, j < ls.length → (ln ls j).length ≤ 9223372036854775807 by unfold maxLen at hs; exact hs)
  have HR := Lib.hid hr
  clear hr hs
  by_cases h : 1048576 < ls.length
  · have h' : (1048576 : Int) - (ls.length : Nat) < 0 := by omega
    go_enter Tryz.func13, Tryz.ntmps13
    go_wp2
    go_ret
    exact ⟨-1, rfl, rfl, fun h => absurd h (by decide)⟩
  have h' : ¬ (1048576 : Int) - (ls.length : Nat) < 0 := by omega
  have hn : ls.length ≤ 1048576 := by omega
  obtain ⟨L, hL⟩ : ∃ L : Nat, (1048576 : Int) - (ls.length : Nat) = (L : Int) := ⟨1048576 - ls.length, by omega⟩
  have HN := Lib.hid (And.intro hn hL)
  have hL1 : L ≤ 1048576 := by omega
  have hL0 : ¬ (L : Int) < 0 := by omega
  clear h
  go_enter Tryz.func13, Tryz.ntmps13
  go_wp2
  go_loopg [1, 5] ls.length (fun q vl vi wr => ∃ (i l : Nat), q + i = ls.length ∧ vi = .int .i64 (i : Int) ∧ vl = .int .i64 (l : Int) ∧ l ≤ 1048576 ∧ (∀ j, j < i → (ln ls j).length ≤ 1048576) ∧ w = wr)
  case atStart => exact ⟨0, L, by simp, rfl, by first | rfl | (rw [hL]), hL1, fun j hj => absurd hj (Nat.not_lt_zero _), rfl⟩
  case round =>
    clear hL hL1 hL0 h'
    obtain ⟨i, l, hq, rfl, rfl, hl, hall, rfl⟩ := hrel
    have HQ := Lib.hid hq
    have HA := Lib.hid hall
    have hil : i ≤ ls.length := by omega
    clear hq hall
    by_cases hi : i < ls.length
    · have hi0 : (0 : Int) ≤ i := by omega
      have hi1 : (i : Int) < (ls.length : Nat) := by omega
      obtain ⟨b, off, rfl, hblt, k0⟩ := HR.out i hi
      have hb := HS.out i hi
      obtain ⟨l', hl'⟩ : ∃ l', l' = ln ls i := ⟨_, rfl⟩
      rw [← hl'] at k0 hb
      have hsz : (bs l').size = l'.length := bs_size l'
      have HL' := Lib.hid hl'
      clear hl'
      by_cases hgt : l < l'.length
      · have hn1 : (l : Int) - (l'.length : Nat) < 0 := by omega
        clear hgt
        go_wp2
        go_ret
        exact ⟨-1, rfl, rfl, fun h => absurd h (by decide)⟩
      · obtain ⟨m, hm'⟩ : ∃ m : Nat, (l : Int) - (l'.length : Nat) = (m : Int) := ⟨l - l'.length, by omega⟩
        have hm1 : m ≤ 1048576 := by omega
        have hm0 : ¬ (m : Int) < 0 := by omega
        have HLL := Lib.hid (show l'.length ≤ 1048576 by omega)
        clear hgt
        go_wp2
        go_roundg (gk - 1)
        case measure => have := HQ.out; omega
        case rel =>
          refine ⟨i + 1, m, by have := HQ.out; omega, by go_num, by first | rfl | (rw [hm']), hm1, ?_, rfl⟩
          intro j hj
          rcases Nat.lt_succ_iff_lt_or_eq.1 hj with h | rfl
          · exact HA.out j h
          · rw [← HL'.out]; exact HLL.out
    · obtain rfl : i = ls.length := by omega
      go_wp2
      go_ret
      exact ⟨l, rfl, rfl, fun _ => ⟨HN.out.1, HA.out⟩⟩

theorem run_make_strings (n : Nat) (hn : n ≤ 1099511627776) (w : World) :
    (Instr.makeSlice 23 (.int .i64 (n : Int)) (.int .i64 (n : Int))).run Tryz.prog w = .ok (.slice (some ⟨w.heap.size, 0, none⟩) n n) (w.alloc (.cells (madeCells #[.string ByteArray.empty] n) 9)) := by
  obtain ⟨i, hi, hz, hs, hb⟩ := info_parts strInfo
  have h := run_make (P := Tryz.prog) w 23 9 i _ Tryz.underlying23 hi hz .i64 .i64 (n : Int) (n : Int) (by omega) (by omega) (by rw [hb]; omega) (by omega)
  rw [hs] at h
  simpa [Value.cells] using h
theorem rowIs_ownL {w : World} {base b : Nat} {ls : List (List UInt8)} (h : w.rowIs b 9 ls.length (fun k => .string (bs (ln ls k)))) (hb : base ≤ b) (hn : ls.length ≤ maxLen) : OwnL w base (.slice (some ⟨b, 0, none⟩) ls.length ls.length) ls := by
  obtain ⟨cur, hc, hsz, hat⟩ := h
  refine ⟨by rw [svals_len, Nat.mul_one], .inr ⟨b, ls.length, cur, rfl, hb, hc, Nat.le_refl _, hn, by omega, ?_⟩⟩
  apply List.ext_getElem?
  intro k
  by_cases hk : k < ls.length
  · rw [svals_at hk, List.getElem?_take_of_lt (by omega), Array.getElem?_toList]
    exact hat k hk
  · rw [List.getElem?_eq_none (by rw [List.length_take]; omega), List.getElem?_eq_none (by rw [svals_len]; omega)]

set_option maxRecDepth 100000 in
set_option maxHeartbeats 1000000 in
/-- laws.toStringS. -/
theorem toStringS_any (a : Option Addr) (cap : Nat) (ls : List (List UInt8)) (w : World) (h : RowL w a ls) (hn : ls.length ≤ 1048576) :
    Calls Tryz.prog 14 #[.slice a ls.length cap] w fun e w' =>
      e = .returned (.slice (some ⟨w.heap.size, 0, none⟩) ls.length ls.length) ∧ OwnL w' w.heap.size (.slice (some ⟨w.heap.size, 0, none⟩) ls.length ls.length) ls ∧ Below w.heap.size w w' := by
  have hmk := run_make_strings ls.length (by omega)
  have HF := Lib.hid h
  clear h
  go_enter Tryz.func14, Tryz.ntmps14
  go_wp2
  clear hmk
  go_loopg [4] ls.length (fun m i wr => ∃ k : Nat, m + k = ls.length ∧ i = .int .i64 k ∧ wr.rowIs w.heap.size 9 ls.length (fun j => if j < k then .string (bs (ln ls j)) else .string ByteArray.empty) ∧ Below w.heap.size w wr)
  case atStart => exact ⟨0, by simp, rfl, (World.rowIs_made w (.string ByteArray.empty) ls.length 9).congr fun j _ => by rw [if_neg (Nat.not_lt_zero _)], below_box _ _⟩
  case round =>
    obtain ⟨k, hk, rfl, hr, B⟩ := hrel
    have HK := Lib.hid hk
    have HW := Lib.hid hr
    have HB := Lib.hid B
    have hkk : k ≤ ls.length := by omega
    clear hk hr B
    by_cases hlt : k < ls.length
    · obtain ⟨bf, of, rfl, hbf, y0⟩ := HF.out.below HB.out k hlt
      have z0 := HW.out.cell hlt
      have z1 := HW.out.frozen k
      rw [if_neg (Nat.lt_irrefl _)] at z0
      have hk0 : (0 : Int) ≤ k := by omega
      have hk1 : (k : Int) < ls.length := by omega
      obtain ⟨X, hX⟩ : ∃ X, X = bs (ln ls k) := ⟨_, rfl⟩
      rw [← hX] at y0
      have HX := Lib.hid hX
      clear hX hbf
      go_wp2
      go_roundg (gk - 1)
      case measure => have := HK.out; omega
      case rel => exact ⟨k + 1, by have := HK.out; omega, by go_num, (HW.out.set k (.string X)).congr fun j _ => by
          by_cases e : j = k
          · subst e; rw [if_pos rfl, if_pos (by omega), HX.out]
          · rw [if_neg e]
            by_cases e2 : j < k
            · rw [if_pos e2, if_pos (by omega)]
            · rw [if_neg e2, if_neg (by omega)], HB.out.setCell (Nat.le_refl _) _⟩
    · obtain rfl : k = ls.length := by omega
      go_wp2
      go_ret
      exact ⟨rfl, rowIs_ownL (HW.out.congr fun j hj => by rw [if_pos hj]) (Nat.le_refl _) (by unfold maxLen; omega), HB.out⟩

set_option maxRecDepth 100000 in
set_option maxHeartbeats 1000000 in
/-- laws.eqStringS at equal slices. -/
theorem eqStringS_any (a a' : Option Addr) (cap cap' : Nat) (ls : List (List UInt8)) (w : World) (hr : RowL w a ls) (hr' : RowL w a' ls) (hn : ls.length ≤ 1099511627776) :
    Calls Tryz.prog 15 #[.slice a ls.length cap, .slice a' ls.length cap'] w fun e w' => e = .returned (.bool true) ∧ Below w.heap.size w w' := by
  have HR := Lib.hid (And.intro hr hr')
  clear hr hr'
  go_enter Tryz.func15, Tryz.ntmps15
  go_wp2
  go_loopg [5] ls.length (fun n i wr => ∃ k : Nat, n + k = ls.length ∧ i = .int .i64 k ∧ Below w.heap.size w wr)
  case atStart => exact ⟨0, rfl, rfl, Below.refl _ _⟩
  case round =>
    obtain ⟨k, hk, rfl, hb⟩ := hrel
    have HK := Lib.hid hk
    have HB := Lib.hid hb
    have hk' : k ≤ ls.length := by omega
    clear hk hb
    by_cases hlt : k < ls.length
    · obtain ⟨b, off, rfl, hbs, c0⟩ := (HR.out.1.below HB.out) k hlt
      obtain ⟨b', off', rfl, hbs', d0⟩ := (HR.out.2.below HB.out) k hlt
      obtain ⟨X, hX⟩ : ∃ X, X = bs (ln ls k) := ⟨_, rfl⟩
      rw [← hX] at c0 d0
      have hk0 : (0 : Int) ≤ k := by omega
      have hk1 : (k : Int) < ls.length := by omega
      clear hX hbs hbs'
      go_wp2
      go_quiet (fail)
      go_wp2
      go_roundg (gk - 1)
      case measure => have := HK.out; omega
      case rel => exact ⟨k + 1, by have := HK.out; omega, by go_num, below_drewN' HB.out _⟩
    · have hk2 : k = ls.length := by omega
      subst hk2
      go_wp2
      go_ret
      exact ⟨rfl, HB.out⟩

/-! ### Marks -/
def mtx (k : Nat) : List UInt8 := [109] ++ Lib.decDigits k
theorem mtx_len {k : Nat} (h : k < 1000000000000) : (mtx k).length ≤ 13 := by
  have := dec_len_big 11 k (by omega)
  rw [mtx, List.length_append, List.length_singleton]; omega

set_option maxRecDepth 100000 in
set_option maxHeartbeats 1000000 in
theorem markText_any (K : Nat) (w : World) (h1 : 1 ≤ K) (hK : K < 1000000000000) :
    Calls Tryz.prog 45 #[.int .i64 (K : Int)] w fun e w' => e = .returned (.string (bs (mtx K))) ∧ Below w.heap.size w w' := by
  have hL := dec_len_big 11 K (by omega)
  have HL := Lib.hid hL
  have HK := Lib.hid hK
  have hK1 : ¬ (K : Int) ≤ 0 := by omega
  clear hL
  go_enter Tryz.func45, Tryz.ntmps45
  go_wp2
  go_loopg [0, 3] K (fun m vn vo wr => ∃ (n : Nat) (o : List UInt8), m = n ∧ vn = .int .i64 (n : Int) ∧ vo = .string (bs o) ∧ ((1 ≤ n ∧ Lib.decDigits n ++ o = Lib.decDigits K) ∨ (n = 0 ∧ o = Lib.decDigits K)) ∧ n ≤ K ∧ Below w.heap.size w wr)
  case atStart => exact ⟨K, [], rfl, rfl, rfl, .inl ⟨h1, by simp⟩, Nat.le_refl _, Below.refl _ _⟩
  case round =>
    obtain ⟨n, o, hmn, rfl, rfl, hdec, hle, B⟩ := hrel
    have HM := Lib.hid hmn
    have HD := Lib.hid hdec
    have HLE := Lib.hid hle
    have HB := Lib.hid B
    have hsz : o.length ≤ 12 := by
      rcases hdec with ⟨-, e⟩ | ⟨-, e⟩
      · have e := congrArg List.length e
        rw [List.length_append] at e
        have := HL.out
        omega
      · rw [e]; exact HL.out
    clear hdec hle B hmn hK1 hK h1
    by_cases h0 : n = 0
    · subst h0
      have ho : o = Lib.decDigits K := by
        rcases HD.out with ⟨h, _⟩ | ⟨_, h⟩
        · omega
        · exact h
      have hadd : ∀ w : World, (Op.stringOp .add ⟨#[109]⟩ (bs o)).run Tryz.prog w = .ok (.string (bs ([109] ++ o))) w := fun w => run_add_bs w [109] o (by simp; omega)
      have HO := Lib.hid ho
      clear ho hsz
      go_wp2
      go_ret
      exact ⟨ret_str (by rw [HO.out]; rfl), HB.out⟩
    · have h0' : (0 : Int) < (n : Int) := by omega
      obtain ⟨c, hc⟩ : ∃ c, c = UInt8.ofNat (48 + n % 10) := ⟨_, rfl⟩
      have hcv := run_str1 wr (48 + (n : Int) % 10) (48 + n % 10) c (by omega) hc (by omega)
      have hadd := fun w => run_add_bs (P := Tryz.prog) w [c] o (by simp; omega)
      have hst : ((1 ≤ n / 10 ∧ Lib.decDigits (n / 10) ++ ([c] ++ o) = Lib.decDigits K) ∨ (n / 10 = 0 ∧ [c] ++ o = Lib.decDigits K)) := by
        have hdd : Lib.decDigits n ++ o = Lib.decDigits K := by
          rcases HD.out with ⟨_, h⟩ | ⟨h, _⟩
          · exact h
          · exact absurd h h0
        by_cases h9 : n < 10
        · refine .inr ⟨by omega, ?_⟩
          rw [hc, show n % 10 = n by omega, ← dec_one h9]; exact hdd
        · refine .inl ⟨by omega, ?_⟩
          rw [hc, ← List.append_assoc, ← dec_more h9]; exact hdd
      have HST := Lib.hid hst
      have hn0 : 1 ≤ n := by omega
      clear hc hsz hst h0
      go_wp2
      have hw : wrap64 ((n : Int) / 10) = ((n / 10 : Nat) : Int) := by
        have q1 := HK.out
        have q2 := HLE.out
        have q3 : wrap64 ((n : Int) / 10) = (n : Int) / 10 := IntWalk.wrap64_in _ (by omega)
        exact q3.trans (by omega)
      go_roundg (n / 10)
      case measure => have := HM.out; omega
      case rel => exact ⟨n / 10, [c] ++ o, rfl, by rw [hw], rfl, HST.out, by have := HLE.out; omega, HB.out.alloc (HB.out.size) _⟩

/-- The slice's list when its first i strings have been marked from k on. -/
def mkL (k i : Nat) (ls : List (List UInt8)) : List (List UInt8) := (List.range i).map (fun j => mtx (k + j)) ++ ls.drop i
def mks (k n : Nat) : List (List UInt8) := (List.range n).map (fun j => mtx (k + j))
theorem mkL_len {k i : Nat} {ls : List (List UInt8)} (h : i ≤ ls.length) : (mkL k i ls).length = ls.length := by
  simp [mkL]; omega
theorem mkL_zero (k : Nat) (ls : List (List UInt8)) : mkL k 0 ls = ls := by simp [mkL]
theorem mkL_full (k : Nat) (ls : List (List UInt8)) : mkL k ls.length ls = mks k ls.length := by simp [mkL, mks]
theorem mkL_step {k i : Nat} {ls : List (List UInt8)} (h : i < ls.length) : (mkL k i ls).set i (mtx (k + i)) = mkL k (i + 1) ls := by
  unfold mkL
  rw [List.set_append_right _ _ (by simp), List.range_succ, List.map_append, List.append_assoc]
  congr 1
  have hd := List.drop_eq_getElem_cons h
  rw [hd]
  simp only [List.length_map, List.length_range, Nat.sub_self, List.set_cons_zero, List.map_cons, List.map_nil, List.cons_append, List.nil_append]
theorem mks_len (k n : Nat) : (mks k n).length = n := by simp [mks]
theorem mks_at {k n j : Nat} (h : j < n) : ln (mks k n) j = mtx (k + j) := by
  rw [ln_get (by rw [mks_len]; exact h)]
  simp [mks]
/-- A store into a slice of strings of its own. -/
theorem OwnL.set {w : World} {base g cap k : Nat} {ls : List (List UInt8)} (h : OwnL w base (.slice (some ⟨g, 0, none⟩) ls.length cap) ls) (l : List UInt8) :
    OwnL (w.setCell ⟨g, k, none⟩ (.string (bs l))) base (.slice (some ⟨g, 0, none⟩) ls.length cap) (ls.set k l) := by
  obtain ⟨h1, ⟨e, _⟩ | ⟨g', cap', cur, e, h3, hb, hnc, hcm, hsz, hx⟩⟩ := h
  · simp at e
  · simp only [Value.slice.injEq, Option.some.injEq, Addr.mk.injEq, and_true, true_and] at e
    obtain ⟨rfl, rfl⟩ := e
    unfold OwnL
    rw [List.length_set]
    refine ⟨by simp [svals], .inr ⟨g, cap, cur.setIfInBounds k (.string (bs l)), rfl, h3, ?_, hnc, hcm, by simpa using hsz, ?_⟩⟩
    · simp [World.setCell, Array.getElem?_modify, hb]
    · rw [show svals (ls.set k l) = (svals ls).set k (.string (bs l)) by simp [svals, sv, List.map_set], ← hx, Array.toList_setIfInBounds, List.take_set]
theorem OwnL.frozen {w : World} {base g cap n : Nat} {ls : List (List UInt8)} (h : OwnL w base (.slice (some ⟨g, 0, none⟩) n cap) ls) (k : Nat) : w.frozen? ⟨g, k, none⟩ = false := by
  obtain ⟨_, ⟨e, _⟩ | ⟨g', cap', cur, e, _, hb, _⟩⟩ := h
  · simp at e
  · simp only [Value.slice.injEq, Option.some.injEq, Addr.mk.injEq, and_true] at e
    obtain ⟨rfl, -⟩ := e
    simp [World.frozen?, hb]

set_option maxRecDepth 100000 in
set_option maxHeartbeats 1000000 in
/-- laws.markStringS. -/
theorem markStringS_any (g cap : Nat) (ls : List (List UInt8)) (k base : Nat) (w : World) (h : OwnL w base (.slice (some ⟨g, 0, none⟩) ls.length cap) ls) (hn : ls.length ≤ 1048576) (hk : k ≤ 100000000) (hk1 : 1 ≤ k) :
    Calls Tryz.prog 16 #[.slice (some ⟨g, 0, none⟩) ls.length cap, .int .i64 (k : Int)] w fun e w' =>
      e = .returned (.int .i64 ((k : Int) + ls.length)) ∧ OwnL w' base (.slice (some ⟨g, 0, none⟩) ls.length cap) (mks k ls.length) ∧ w.grownBy w' (some g) := by
  have HO := Lib.hid h
  clear h
  go_enter Tryz.func16, Tryz.ntmps16
  go_wp2
  go_loopg [1, 5] ls.length (fun m s z wr => ∃ i q : Nat, q = k + i ∧ m + i = ls.length ∧ z = .int .i64 i ∧ s = .int .i64 (q : Int) ∧ OwnL wr base (.slice (some ⟨g, 0, none⟩) ls.length cap) (mkL k i ls) ∧ w.grownBy wr (some g))
  case atStart => exact ⟨0, k, rfl, by simp, rfl, rfl, by rw [mkL_zero]; exact HO.out, gb_refl _ _⟩
  case round =>
    clear HO
    obtain ⟨i, q, hqk, hi, rfl, rfl, ho, hg⟩ := hrel
    have HI := Lib.hid hi
    have HQK := Lib.hid hqk
    have hqb : q ≤ 200000000 := by omega
    have hq1 : 1 ≤ q := by omega
    have hii : i ≤ ls.length := by omega
    have HL := Lib.hid (mkL_len (k := k) hii)
    have ho' : OwnL wr base (.slice (some ⟨g, 0, none⟩) (mkL k i ls).length cap) (mkL k i ls) := by rw [HL.out]; exact ho
    have HO := Lib.hid ho'
    have HG := Lib.hid hg
    clear hi ho ho' hg hqk
    by_cases hlt : i < ls.length
    · have hi0 : (0 : Int) ≤ i := by omega
      have hi1 : (i : Int) < ls.length := by omega
      go_wp2_with fail
      refine (markText_any q _ (by omega) (by omega)).mono ?_
      rintro e w2 ⟨rfl, b2⟩
      have HO2 := Lib.hid (HO.out.below b2)
      have HG2 := Lib.hid (gb_trans HG.out (gb_below (rb := g) b2))
      obtain ⟨b, off, e', hblt, x0⟩ := HO2.out.rowL i (by rw [HL.out]; exact hlt)
      simp only [Option.some.injEq, Addr.mk.injEq, and_true] at e'
      obtain ⟨rfl, rfl⟩ := e'
      rw [Nat.zero_add] at x0
      have z0 := HO2.out.frozen i
      obtain ⟨X, hX⟩ : ∃ X, X = mtx q := ⟨_, rfl⟩
      obtain ⟨Y, hY⟩ : ∃ Y, Y = bs (ln (mkL k i ls) i) := ⟨_, rfl⟩
      rw [← hX]
      rw [← hY] at x0
      have HX := Lib.hid hX
      clear b2 hX hY
      go_wp2
      go_roundg (gk - 1)
      case measure => have := HI.out; omega
      case rel =>
        refine ⟨i + 1, q + 1, by have := HQK.out; omega, by have := HI.out; omega, by go_num, by go_num, ?_, gb_set HG2.out (.inl rfl) _⟩
        have h := OwnL.set (k := i) HO2.out X
        rw [HX.out, HQK.out, mkL_step hlt, HL.out] at h
        rw [HX.out, HQK.out]
        exact h
    · obtain rfl : i = ls.length := by omega
      have h := HO.out
      rw [mkL_full, mks_len] at h
      have H := Lib.hid h
      clear h
      go_wp2
      go_ret
      exact ⟨ret_int (by have := HQK.out; omega), H.out, HG.out⟩

set_option maxRecDepth 100000 in
set_option maxHeartbeats 1000000 in
/-- laws.heldStringS, where the marks are held. -/
theorem heldStringS_any (a : Option Addr) (cap n k : Nat) (w : World) (h : RowL w a (mks k n)) (hn : n ≤ 1048576) (hk : k ≤ 100000000) (hk1 : 1 ≤ k) :
    Calls Tryz.prog 17 #[.slice a n cap, .int .i64 (k : Int)] w fun e w' =>
      e = .returned (.int .i64 ((k : Int) + n)) ∧ Below w.heap.size w w' := by
  have HO := Lib.hid h
  clear h
  go_enter Tryz.func17, Tryz.ntmps17
  go_wp2
  go_loopg [1, 5] n (fun m s z wr => ∃ i q : Nat, q = k + i ∧ m + i = n ∧ z = .int .i64 i ∧ s = .int .i64 (q : Int) ∧ Below w.heap.size w wr)
  case atStart => exact ⟨0, k, rfl, by simp, rfl, rfl, Below.refl _ _⟩
  case round =>
    obtain ⟨i, q, hqk, hi, rfl, rfl, B⟩ := hrel
    have HI := Lib.hid hi
    have HQK := Lib.hid hqk
    have hqb : q ≤ 200000000 := by omega
    have hq1 : 1 ≤ q := by omega
    have HB := Lib.hid B
    have hii : i ≤ n := by omega
    clear hi B
    by_cases hlt : i < n
    · obtain ⟨b, off, rfl, hblt, x0⟩ := (HO.out.below HB.out) i (by rw [mks_len]; exact hlt)
      have hi0 : (0 : Int) ≤ i := by omega
      have hi1 : (i : Int) < n := by omega
      rw [mks_at hlt, ← hqk] at x0
      have HM := Lib.hid (fun W => markText_any q W (by omega) (by omega))
      obtain ⟨X, hX⟩ : ∃ X, X = bs (mtx q) := ⟨_, rfl⟩
      rw [← hX] at x0 HM
      have x0' : wr.drew.cell? ⟨b, off + i, none⟩ = some (.string X) := x0
      clear hX hqk
      go_wp2_with fail
      go_region_with (go_at_call 45; refine (HM.out _).mono ?_; rintro e w2 ⟨rfl, b2⟩; have x2 := (b2.cell (p := ⟨b, off + i, none⟩) hblt).trans x0')
      all_goals
        have HB2 := Lib.hid (HB.out.drew.trans (b2.mono HB.out.size))
        clear b2
        go_wp2
        go_roundg (gk - 1)
        case measure => have := HI.out; omega
        case rel => exact ⟨i + 1, q + 1, by have := HQK.out; omega, by have := HI.out; omega, by go_num, by go_num, HB2.out⟩
    · obtain rfl : i = n := by omega
      clear hqk
      go_wp2
      go_ret
      exact ⟨ret_int (by have := HQK.out; omega), HB.out⟩

end Go.Proofs.YtdgihkmiolnglaaGreatDoor
