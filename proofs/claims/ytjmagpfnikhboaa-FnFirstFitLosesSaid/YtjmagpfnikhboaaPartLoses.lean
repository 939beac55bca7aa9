/- The walk of laws.FnFirstFitLoses, for whatever code. Condition: the argument is a slice of bytes. -/
import Derived.Test.YtjmagpfnikhboaaPartImpl
import Derived.Test.YtjmagpfnikhboaaSame
import Derived.Maps.AppendAt
namespace Go.Proofs.Ytjmagpfnikhboaa
open Go.RowKit Go.Deep

/-- P134's set, and its costs. -/
def losS : List T3 := [(4, 10, 10), (5, 10, 10), (6, 10, 10), (5, 10, 10)]
def losC (k : Nat) : Int := [4, 5, 6, 5].getD k 0
theorem los_two : ffO losS 2 = none := by decide +kernel
theorem los_three : ffO losS 3 = some [0, 0, 1, 2] := by decide +kernel
theorem los_best : prO losS 2 = some [0, 1, 0, 1] := by decide +kernel
theorem los_min : mcO losS = 2 := by decide +kernel
theorem los_step {i : Nat} (h : i < 4) : losS.take i ++ [(losC i, 10, 10)] = losS.take (i + 1) := by
  match i, h with
  | 0, _ | 1, _ | 2, _ | 3, _ => rfl
theorem los_len {i : Nat} (h : i ≤ 4) : (losS.take i).length = i := by
  rw [List.length_take]
  show min i 4 = i
  omega
/-- The set under way: what it has, and the costs beside it. -/
structure Los (w : World) (i : Nat) (v : Value) (wr : World) : Prop where
  own : Own wr w.heap.size v (losS.take i)
  bl : Below w.heap.size w wr
  sz : w.heap.size + 1 < wr.heap.size
  cb : IntF wr (some ⟨w.heap.size + 1, 0, none⟩) 4 losC
  ne : v.ownBlock ≠ some (w.heap.size + 1)
theorem los_cells (w : World) : IntF (w.alloc (.cells #[.int .i64 4, .int .i64 5, .int .i64 6, .int .i64 5] 3)) (some ⟨w.heap.size, 0, none⟩) 4 losC := by
  intro k hk
  match k, hk with
  | 0, _ | 1, _ | 2, _ | 3, _ => exact ⟨w.heap.size, 0, rfl, by simp, by simp [go_sem, losC]⟩
theorem Los.start (w : World) : Los w 0 (.slice (some ⟨w.heap.size, 0, none⟩) 0 0) ((w.alloc (.cells #[] 36)).alloc (.cells #[.int .i64 4, .int .i64 5, .int .i64 6, .int .i64 5] 3)) :=
  ⟨World.ownsRow.alloc (w := w.alloc (.cells #[] 36)) ⟨rfl, .inr ⟨w.heap.size, 0, #[], rfl, Nat.le_refl _, blk_alloc_new _ _, Nat.le_refl _, by simp [maxLen], rfl, rfl⟩⟩ _,
    (below_box _ _).trans ((below_box _ _).mono (below_box _ _).size), by simp, by
      have h := los_cells (w.alloc (.cells #[] 36))
      rw [show (w.alloc (.cells #[] 36)).heap.size = w.heap.size + 1 by simp] at h
      exact h, by simp [Value.ownBlock]⟩
theorem Los.alloc {w wr : World} {i : Nat} {v : Value} (h : Los w i v wr) (o : Obj) : Los w i v (wr.alloc o) :=
  ⟨World.ownsRow.alloc h.own o, h.bl.trans ((below_box _ _).mono h.bl.size), by have := h.sz; simp; omega, h.cb.below (below_box _ _), h.ne⟩
theorem Los.push {w wr wx : World} {i : Nat} {v v' : Value} {c : Int} {X : List T3} (h : Los w i v wr) (hi : i < 4) (hc : c = losC i) (hX : X = losS.take i)
    (hown : wx.ownsRow w.heap.size 36 3 v' (i + 1) (flat X ++ [.int .i64 c, .int .i64 10, .int .i64 10])) (hg : wr.grownBy wx v.ownBlock) (hb : v'.ownBlock = v.ownBlock ∨ v'.ownBlock = some wr.heap.size) : Los w (i + 1) v' wx := by
  have hz := h.sz
  subst hX
  refine ⟨?_, ⟨hg.os.trans h.bl.os, hg.tape.trans h.bl.tape, hg.output.trans h.bl.output, Nat.le_trans h.bl.size hg.size, fun k hk => (hg.block k (Nat.lt_of_lt_of_le hk h.bl.size) ?_).trans (h.bl.block k hk)⟩, Nat.lt_of_lt_of_le hz hg.size, ?_, ?_⟩
  · show wx.ownsRow _ _ _ _ _ _
    rw [← los_step hi, flat_snoc, ← hc, List.length_append, los_len (by omega)]
    exact hown
  · intro e
    obtain ⟨_, ⟨rfl, _⟩ | ⟨g, cap, cur, rfl, hb', _⟩⟩ := h.own
    · simp [Value.ownBlock] at e
    · simp only [Value.ownBlock, Option.some.injEq] at e
      omega
  · intro k hk
    obtain ⟨b, off, e, hlt, h0⟩ := h.cb k hk
    obtain ⟨rfl, rfl⟩ : w.heap.size + 1 = b ∧ 0 = off := by simpa using e
    exact ⟨_, _, rfl, Nat.lt_of_lt_of_le hlt hg.size, (World.cell?_of_block (w := wr) (a := ⟨w.heap.size + 1, 0 + k, none⟩) (hg.block _ hlt fun e => h.ne e.symm)).trans h0⟩
  · rcases hb with e | e
    · rw [e]; exact h.ne
    · rw [e]
      simp only [ne_eq, Option.some.injEq]
      omega

theorem los_best4 (w : World) : IntF (w.alloc (.cells #[.int .i64 0, .int .i64 1, .int .i64 0, .int .i64 1] 3)) (some ⟨w.heap.size, 0, none⟩) 4 (nz [0, 1, 0, 1]) := by
  intro k hk
  match k, hk with
  | 0, _ | 1, _ | 2, _ | 3, _ => exact ⟨w.heap.size, 0, rfl, by simp, by simp [go_sem, nz]⟩
theorem los_three4 (w : World) : IntF (w.alloc (.cells #[.int .i64 0, .int .i64 0, .int .i64 1, .int .i64 2] 3)) (some ⟨w.heap.size, 0, none⟩) 4 (nz [0, 0, 1, 2]) := by
  intro k hk
  match k, hk with
  | 0, _ | 1, _ | 2, _ | 3, _ => exact ⟨w.heap.size, 0, rfl, by simp, by simp [go_sem, nz]⟩

set_option maxRecDepth 100000 in
set_option maxHeartbeats 2000000 in
/-- laws.FnFirstFitLoses. -/
theorem fnFirstFitLoses_walk (a : Option Addr) (len cap : Nat) (w : World) (hb : Byts w a len cap) :
    Calls Try.prog 11 #[.slice a len cap] w fun e w' => e = .returned (.bool true) ∧ Below w.heap.size w w' := by
  have hm : cap ≤ maxLen := hb.2.2
  have hlc : len ≤ cap := hb.2.1
  unfold maxLen at hm
  clear hb
  by_cases hl : 1048576 < len
  · have hl' : (1048576 : Int) < len := by omega
    go_enter Try.func11, Try.ntmps11
    go_wp2
    go_ret
    exact ⟨rfl, Below.refl _ _⟩
  have hl' : ¬ (1048576 : Int) < len := by omega
  obtain ⟨i0, hi0, hz, hsz, hby⟩ := info_parts taskInfo
  have HI := Lib.hid (And.intro hi0 (And.intro hz (And.intro hsz hby)))
  clear hi0 hz hsz hby
  go_enter Try.func11, Try.ntmps11
  go_wp2
  go_loopg [3, 5] 4 (fun q v z wr => ∃ i : Nat, q + i = 4 ∧ z = .int .i64 i ∧ Los w i v wr)
  case atStart => exact ⟨0, rfl, rfl, Los.start w⟩
  case round =>
    obtain ⟨i, hq, rfl, hL⟩ := hrel
    have HL := Lib.hid hL
    have HQ := Lib.hid hq
    have hi4 : i ≤ 4 := by omega
    by_cases hin : i < 4
    · have hi0 : (0 : Int) ≤ i := by omega
      have hi1 : (i : Int) < 4 := by omega
      obtain ⟨b, off, e, _, g0⟩ := hL.cb i hin
      obtain ⟨rfl, rfl⟩ : w.heap.size + 1 = b ∧ 0 = off := by simpa using e
      rw [Nat.zero_add] at g0
      obtain ⟨C, hC⟩ : ∃ C, C = losC i := ⟨_, rfl⟩
      rw [← hC] at g0
      have HC := Lib.hid hC
      obtain ⟨X, hX⟩ : ∃ X, X = losS.take i := ⟨_, rfl⟩
      have hXl : X.length = i := by rw [hX]; exact los_len hi4
      have HO := Lib.hid (show wr.ownsRow w.heap.size 36 3 _ i (flat X) by rw [hX]; have h := hL.own; unfold Own at h; rw [los_len hi4] at h; exact h)
      have HX := Lib.hid hX
      have HXl := Lib.hid hXl
      clear hL hq hC hX hXl e
      go_wp2_with (at_builtin; refine wpList_append_own_at _ rfl (.tmp 23) (.tmp 29) 23 rfl w.heap.size 36 i0 _ 3 24 Try.underlying23 HI.out.1 HI.out.2.1 HI.out.2.2.1 HI.out.2.2.2 rfl (by decide) _ i (flat X) rfl (World.ownsRow.alloc HO.out _) ⟨wr.heap.size, 0, none⟩ 1 1 [.int .i64 C, .int .i64 10, .int .i64 10] rfl rfl (news3 _ _ _ _ _) (one3 _ _ _) (by unfold maxLen; omega) (by omega) (HL.out.alloc _).bl.size ?_; intro v' w' hown' hgrow hnil hblk)
      have HP := Lib.hid (Los.push (HL.out.alloc _) hin HC.out HX.out hown' hgrow hblk)
      clear hown' hgrow hnil hblk g0
      go_roundg (gk - 1)
      case measure => have := HQ.out; omega
      case rel => exact ⟨i + 1, by have := HQ.out; omega, by go_num, HP.out⟩
    · obtain rfl : i = 4 := by omega
      obtain ⟨sa, sc, rfl⟩ := own_shape hL.own
      obtain ⟨sa', sc', e', R0, _, _⟩ := hL.own.row
      have hlen : (losS.take 4).length = 4 := rfl
      simp only [Value.slice.injEq] at e'
      obtain ⟨rfl, -, rfl⟩ := e'
      have R1 := Lib.hid (show Row wr sa losS from R0)
      have B1 := Lib.hid hL.bl
      clear hL R0 HL hlen hq
      have HF1 : ∀ (n : Int) (W : World), Row W sa losS → Calls Try.prog 26 #[.slice sa 4 sc, .int .i64 n] W fun e w' => GotAsg W.heap.size (ffO losS n) e w' ∧ Below W.heap.size W w' := fun n W h => firstFit_any sa sc losS n W h (by decide)
      have HPt : ∀ (n : Int) (W : World), Row W sa losS → Calls Try.prog 30 #[.slice sa 4 sc, .int .i64 n] W fun e w' => GotAsg W.heap.size (prO losS n) e w' ∧ Below W.heap.size W w' := fun n W h => partition_any sa sc losS n W h (by decide)
      have HMc : ∀ (W : World), Row W sa losS → Calls Try.prog 33 #[.slice sa 4 sc] W fun e w' => e = .returned (.int .i64 (mcO losS : Nat)) ∧ Below W.heap.size W w' := fun W h => minCores_any sa sc losS W h (by decide)
      have H1 := Lib.hid HF1
      have H2 := Lib.hid HPt
      have H3 := Lib.hid HMc
      clear HF1 HPt HMc
      go_wp2_with fail
      refine (H1.out 2 _ R1.out).mono ?_
      rintro e w2 ⟨⟨v2, rfl, -⟩, b2⟩
      have B2 := Lib.hid (B1.out.trans (b2.mono B1.out.size))
      have R2 := Lib.hid (R1.out.below b2)
      rw [los_two]
      simp only [Option.isSome_none]
      clear b2 R1 B1
      go_wp2_with fail
      refine (H1.out 3 _ R2.out).mono ?_
      rw [los_three]
      rintro e w3 ⟨⟨v3, rfl, ho3⟩, b3⟩
      simp only [Option.isSome_some, Option.getD_some] at ho3 ⊢
      obtain ⟨ua, uc, rfl⟩ := own_shape ho3
      have B3 := Lib.hid (B2.out.trans (b3.mono B2.out.size))
      have R3 := Lib.hid (R2.out.below b3)
      have O3 := Lib.hid (show IntF w3 ua 4 (nz [0, 0, 1, 2]) from ho3.intF')
      clear b3 R2 B2 ho3
      go_wp2_with fail
      refine (H2.out 2 _ R3.out).mono ?_
      rw [los_best]
      rintro e w4 ⟨⟨v4, rfl, ho4⟩, b4⟩
      simp only [Option.isSome_some, Option.getD_some] at ho4 ⊢
      obtain ⟨ta, tc, rfl⟩ := own_shape ho4
      have B4 := Lib.hid (B3.out.trans (b4.mono B3.out.size))
      have R4 := Lib.hid (R3.out.below b4)
      have O4 := Lib.hid (O3.out.below b4)
      have P4 := Lib.hid (show IntF w4 ta 4 (nz [0, 1, 0, 1]) from ho4.intF')
      clear b4 R3 B3 O3 ho4
      go_wp2_with fail
      refine (H3.out _ R4.out).mono ?_
      rw [los_min]
      rintro e w5 ⟨rfl, b5⟩
      have B5 := Lib.hid (B4.out.trans (b5.mono B4.out.size))
      have O5 := Lib.hid (O4.out.below b5)
      have P5 := Lib.hid (P4.out.below b5)
      clear b5 R4 B4 O4 P4
      have I1 := Lib.hid (fun o1 => show IntF (w5.alloc o1) ta 4 (nz [0, 1, 0, 1]) from P5.out.below (below_box _ _))
      go_wp2_with fail
      refine (sameInts_same _ _ _ _ 4 (nz [0, 1, 0, 1]) _ (I1.out _) (los_best4 w5) (by decide)).mono ?_
      rintro e w6 ⟨rfl, m6, hw6⟩
      have b6 : Below w5.heap.size w5 w6 := by rw [hw6]; exact below_drewN' (below_box _ _) _
      have B6 := Lib.hid (B5.out.trans (b6.mono B5.out.size))
      have I2 := Lib.hid (fun o1 => show IntF (w6.alloc o1) ua 4 (nz [0, 0, 1, 2]) from (O5.out.below b6).below (below_box _ _))
      clear b6 hw6 B5 O5 P5 I1
      go_wp2_with fail
      refine (sameInts_same _ _ _ _ 4 (nz [0, 0, 1, 2]) _ (I2.out _) (los_three4 w6) (by decide)).mono ?_
      rintro e w7 ⟨rfl, m7, hw7⟩
      have b7 : Below w6.heap.size w6 w7 := by rw [hw7]; exact below_drewN' (below_box _ _) _
      have B7 := Lib.hid (B6.out.trans (b7.mono B6.out.size))
      clear b7 hw7
      go_wp2
      go_ret
      exact ⟨rfl, B7.out⟩
end Go.Proofs.Ytjmagpfnikhboaa
