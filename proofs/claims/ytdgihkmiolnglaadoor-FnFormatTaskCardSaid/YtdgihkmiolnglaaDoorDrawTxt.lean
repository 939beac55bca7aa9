/- The draws of chapter 10: spec.l20Mutate, DrawFormatTask, DrawParseTask: some line of at most twenty bytes, some task. Conditions: those of each theorem. -/
import Derived.Test.YtdgihkmiolnglaaDoorTxtTask
import Derived.Test.YtdgihkmiolnglaaDoorDraw
namespace Go.Proofs.YtdgihkmiolnglaaDoor
open Go.RowKit Go.Deep

/-- A line was drawn. -/
def Mutated (rb p : Nat) (l : List UInt8) (w : World) (e : Ending) (w' : World) : Prop :=
  ∃ m : List UInt8, e = .returned (.string (bs m)) ∧ m.length ≤ l.length + 1 ∧ w.grownBy w' (some rb) ∧ Rd w' rb (p + 4)

set_option maxRecDepth 100000 in
set_option maxHeartbeats 2000000 in
theorem l20Mutate_any (rb p : Nat) (l : List UInt8) (w : World) (hr : Rd w rb p) (hp : p ≤ 900000000) (hl : l.length ≤ 1048576) :
    Calls Tryd.prog 20 #[.pointer (some ⟨rb, 0, none⟩), .string (bs l)] w (Mutated rb p l w) := by
  have hs : (bs l).size = l.length := bs_size l
  have HR := Lib.hid hr
  clear hr
  go_enter Tryd.func20, Tryd.ntmps20
  go_wp2_with fail
  refine (pick_any rb p _ _ HR.out (by omega)).mono ?_
  rintro e w1 ⟨k, rfl, hk0, hk1, -, g1, r1⟩
  have hk1 := hk1 (by omega)
  go_wp2_with fail
  refine (pick_any rb (p + 1) 256 _ r1 (by omega)).mono ?_
  rintro e w2 ⟨v, rfl, hv0, hv1, -, g2, r2⟩
  have hv1 := hv1 (by omega)
  go_wp2_with fail
  obtain ⟨W2, hW2⟩ : ∃ W2, W2 = w2.alloc (.cells #[.int .i64 32, .int .i64 48, .int .i64 49, .int .i64 116, .int .i64 v] 3) := ⟨_, rfl⟩
  rw [← hW2]
  have hcl : ∀ j : Nat, j < 5 → ∃ x : Nat, x < 256 ∧ W2.cell? ⟨w2.heap.size, j, none⟩ = some (.int .i64 (x : Int)) := by
    intro j hj
    obtain ⟨y, rfl⟩ : ∃ y : Nat, v = y := ⟨v.toNat, by omega⟩
    match j, hj with
    | 0, _ => exact ⟨32, by omega, by rw [hW2]; simp [go_sem]⟩
    | 1, _ => exact ⟨48, by omega, by rw [hW2]; simp [go_sem]⟩
    | 2, _ => exact ⟨49, by omega, by rw [hW2]; simp [go_sem]⟩
    | 3, _ => exact ⟨116, by omega, by rw [hW2]; simp [go_sem]⟩
    | 4, _ => exact ⟨y, by omega, by rw [hW2]; simp [go_sem]⟩
    | _ + 5, h => omega
  have r2' : Rd W2 rb (p + 1 + 1) := by rw [hW2]; exact r2.alloc _
  have g2' : w.grownBy W2 (some rb) := by rw [hW2]; exact gb_alloc (gb_trans g1 g2) _
  have hlt2 : w2.heap.size < W2.heap.size := by rw [hW2]; simp
  have hrb : rb < w2.heap.size := r2.lt
  clear hW2 g1 g2 r1 r2
  refine (pick_any rb (p + 1 + 1) 5 _ r2' (by omega)).mono ?_
  rintro e w3 ⟨i, rfl, hi0, hi1, -, g3, r3⟩
  have hi1 := hi1 (by omega)
  obtain ⟨j, rfl⟩ : ∃ j : Nat, i = j := ⟨i.toNat, by omega⟩
  obtain ⟨x, hx, hc⟩ := hcl j (by omega)
  have hc3 : w3.cell? ⟨w2.heap.size, j, none⟩ = some (.int .i64 (x : Int)) := (gb_cell g3 (p := ⟨w2.heap.size, j, none⟩) hlt2 (by simp only; omega)).trans hc
  have G3 := Lib.hid (gb_trans g2' g3)
  have R3 := Lib.hid r3
  clear hcl hc g2' g3 r3 r2'
  obtain ⟨c, hcc⟩ : ∃ c, c = UInt8.ofNat x := ⟨_, rfl⟩
  have hcv := run_str1 w3 (x : Int) x c rfl hcc hx
  clear hcc
  go_wp2_with fail
  refine (pick_any rb (p + 1 + 1 + 1) 3 _ (R3.out.alloc _) (by omega)).mono ?_
  rintro e w4 ⟨i, rfl, hi0, hi1, -, g4, r4⟩
  have hi1 := hi1 (by omega)
  have G4 := Lib.hid (gb_trans (gb_alloc G3.out _) g4)
  have R4 := Lib.hid r4
  clear g4 r4 hc3 hcv hlt2 hrb
  obtain ⟨k, rfl⟩ : ∃ k' : Nat, k = k' := ⟨k.toNat, by omega⟩
  have hkl : k ≤ l.length := by omega
  obtain ⟨T, hT⟩ : ∃ T, T = l.take k := ⟨_, rfl⟩
  obtain ⟨U, hU⟩ : ∃ U, U = l.drop k := ⟨_, rfl⟩
  obtain ⟨V, hV⟩ : ∃ V, V = l.drop (k + 1) := ⟨_, rfl⟩
  have e1 : (bs l).extract 0 k = bs T := by rw [bs_extract, List.drop_zero, hT]
  have e2 : (bs l).extract k l.length = bs U := by rw [bs_extract, List.take_length, hU]
  have e3 : (bs l).extract (k + 1) l.length = bs V := by rw [bs_extract, List.take_length, hV]
  have lT : T.length = k := by rw [hT, List.length_take]; omega
  have lU : U.length = l.length - k := by rw [hU, List.length_drop]
  have lV : V.length = l.length - (k + 1) := by rw [hV, List.length_drop]
  have a1 := fun w => run_add_bs (P := Tryd.prog) w T [c] (by simp; omega)
  obtain ⟨TC, hTC⟩ : ∃ TC, TC = T ++ [c] := ⟨_, rfl⟩
  have lTC : TC.length = k + 1 := by rw [hTC, List.length_append, lT]; rfl
  rw [← hTC] at a1
  have a2 := fun w => run_add_bs (P := Tryd.prog) w TC U (by omega)
  have a3 := fun w => run_add_bs (P := Tryd.prog) w TC V (by omega)
  have a4 := fun w => run_add_bs (P := Tryd.prog) w T V (by omega)
  have n2 := Lib.hid (show (TC ++ U).length ≤ l.length + 1 by rw [List.length_append]; omega)
  have n3 := Lib.hid (show (TC ++ V).length ≤ l.length + 1 by rw [List.length_append]; omega)
  have n4 := Lib.hid (show (T ++ V).length ≤ l.length + 1 by rw [List.length_append]; omega)
  clear hT hU hV hTC lT lU lV lTC
  have hi : i = 0 ∨ i = 1 ∨ i = 2 := by omega
  clear hi0 hi1 hk0 hk1
  rcases hi with rfl | rfl | rfl
  · clear a3 a4 n3 n4 e3
    go_wp2_with fail
    go_quiet (fail)
    go_wp2
    go_ret
    exact ⟨_, rfl, n2.out, gb_drewN G4.out _, R4.out.drewN _⟩
  · clear a1 a2 a3 n2 n3 e2
    by_cases hk : k < l.length
    · have hk' : (k : Int) < (l.length : Nat) := by omega
      clear hk
      go_wp2_with fail
      go_quiet (fail)
      go_wp2
      go_ret
      exact ⟨_, rfl, n4.out, gb_drewN G4.out _, R4.out.drewN _⟩
    · have hk' : ¬ (k : Int) < (l.length : Nat) := by omega
      clear hk
      go_wp2
      go_ret
      exact ⟨_, rfl, Nat.le_succ _, G4.out, R4.out⟩
  · clear a2 a4 n2 n4 e2
    by_cases hk : k < l.length
    · have hk' : (k : Int) < (l.length : Nat) := by omega
      clear hk
      go_wp2_with fail
      go_quiet (fail)
      go_wp2
      go_ret
      exact ⟨_, rfl, n3.out, gb_drewN G4.out _, R4.out.drewN _⟩
    · have hk' : ¬ (k : Int) < (l.length : Nat) := by omega
      clear hk
      go_wp2
      go_ret
      exact ⟨_, rfl, Nat.le_succ _, G4.out, R4.out⟩

set_option maxRecDepth 100000 in
set_option maxHeartbeats 1000000 in
/-- spec.DrawFormatTask. -/
theorem drawFormatTask_any (a : Option Addr) (len cap : Nat) (w : World) (hb : Byts w a len cap) :
    Calls Tryd.prog 6 #[.slice a len cap] w fun e w' => ∃ c d p : Int, e = .returned (.agg #[.int .i64 c, .int .i64 d, .int .i64 p]) ∧ Below w.heap.size w w' := by
  obtain ⟨h1, h2, h3⟩ := hb
  obtain ⟨W, hW⟩ : ∃ W, W = w.alloc (.cells #[.int .i64 0, .int .i64 0, .int .i64 0] 24) := ⟨_, rfl⟩
  have hb0 : Below w.heap.size w W := by rw [hW]; exact below_box _ _
  have hws : W.heap.size = w.heap.size + 1 := by rw [hW]; simp
  have hbt : Bts W W.heap.size a len := by
    intro k hk
    obtain ⟨b, off, ha, hlt, z, hz, hc⟩ := h1 k hk
    exact ⟨b, off, ha, Nat.lt_of_lt_of_le hlt hb0.size, z, hz, (hb0.cell (p := ⟨b, off + k, none⟩) hlt).trans hc⟩
  have q0 : W.cell? ⟨w.heap.size, 0, none⟩ = some (.int .i64 0) := by rw [hW]; simp [go_sem]
  have q1 : W.cell? ⟨w.heap.size, 1, none⟩ = some (.int .i64 0) := by rw [hW]; simp [go_sem]
  have q2 : W.cell? ⟨w.heap.size, 2, none⟩ = some (.int .i64 0) := by rw [hW]; simp [go_sem]
  have z0 : W.frozen? ⟨w.heap.size, 0, none⟩ = false := by rw [hW]; simp [go_sem]
  have z1 : W.frozen? ⟨w.heap.size, 1, none⟩ = false := by rw [hW]; simp [go_sem]
  have z2 : W.frozen? ⟨w.heap.size, 2, none⟩ = false := by rw [hW]; simp [go_sem]
  have HW := Lib.hid hW
  have HB := Lib.hid hb0
  have HT := Lib.hid hbt
  clear h1 hb0 hbt hW
  go_enter Tryd.func6, Tryd.ntmps6
  go_wp2_with fail
  rw [← HW.out]
  refine (l20Open_any a len cap _ HT.out h2 h3).mono ?_
  rintro e w1 ⟨rfl, r1, b1, s1⟩
  rw [hws] at r1
  go_wp2_with fail
  refine (l20Task_any _ 0 4 _ r1 (by omega)).mono ?_
  rintro e w2 ⟨c, d, p, rfl, g2, r2⟩
  have hl : w.heap.size < w1.heap.size := by omega
  have hne : w.heap.size ≠ w.heap.size + 1 := by omega
  have hlW : w.heap.size < W.heap.size := by omega
  have B2 : Below w.heap.size w w2 := HB.out.trans ((b1.mono HB.out.size).trans (gb_to_below g2 (Nat.le_succ _) (Nat.le_of_lt hl)))
  have q0 := (gb_cell g2 (p := ⟨w.heap.size, 0, none⟩) hl hne).trans ((b1.cell (p := ⟨w.heap.size, 0, none⟩) hlW).trans q0)
  have q1 := (gb_cell g2 (p := ⟨w.heap.size, 1, none⟩) hl hne).trans ((b1.cell (p := ⟨w.heap.size, 1, none⟩) hlW).trans q1)
  have q2 := (gb_cell g2 (p := ⟨w.heap.size, 2, none⟩) hl hne).trans ((b1.cell (p := ⟨w.heap.size, 2, none⟩) hlW).trans q2)
  have z0 := (gb_frozen g2 (p := ⟨w.heap.size, 0, none⟩) hl hne).trans ((b1.frozen (p := ⟨w.heap.size, 0, none⟩) hlW).trans z0)
  have z1 := (gb_frozen g2 (p := ⟨w.heap.size, 1, none⟩) hl hne).trans ((b1.frozen (p := ⟨w.heap.size, 1, none⟩) hlW).trans z1)
  have z2 := (gb_frozen g2 (p := ⟨w.heap.size, 2, none⟩) hl hne).trans ((b1.frozen (p := ⟨w.heap.size, 2, none⟩) hlW).trans z2)
  have HB := Lib.hid B2
  clear g2 r2 b1 r1 B2 s1 hl hne hlW hws HT
  go_wp2
  refine bodyPost_ret (v := .agg #[.int .i64 c, .int .i64 d, .int .i64 p]) ?_ rfl ⟨c, d, p, rfl, below_set3' HB.out (Nat.le_refl _) _ _ _⟩
  simp [results, Tryd.results6, go_sem, q0, q1, q2]

/-- The ten lines of spec.DrawParseTask. -/
def tenL : List (List UInt8) := [[], [116, 97, 115, 107], [116, 97, 115, 107, 32, 49, 32, 50], [116, 97, 115, 107, 32, 49, 32, 50, 32, 51, 32, 52], [116, 97, 115, 107, 32, 48, 49, 32, 50, 32, 51], [116, 97, 115, 107, 32, 51, 32, 50, 32, 52], [84, 97, 115, 107, 32, 49, 32, 50, 32, 51], [116, 97, 115, 107, 32, 49, 32, 32, 50, 32, 51], [116, 97, 115, 107, 32, 49, 32, 50, 32, 49, 51], [116, 97, 115, 107, 32, 49, 32, 50, 32, 51, 32]]

set_option maxRecDepth 100000 in
set_option maxHeartbeats 2000000 in
/-- spec.DrawParseTask. -/
theorem drawParseTask_any (a : Option Addr) (len cap : Nat) (w : World) (hb : Byts w a len cap) :
    Calls Tryd.prog 7 #[.slice a len cap] w fun e w' => ∃ l : List UInt8, e = .returned (.string (bs l)) ∧ l.length ≤ 20 ∧ Below w.heap.size w w' := by
  obtain ⟨h1, h2, h3⟩ := hb
  have HT := Lib.hid h1
  clear h1
  go_enter Tryd.func7, Tryd.ntmps7
  go_wp2_with fail
  refine (l20Open_any a len cap _ HT.out h2 h3).mono ?_
  rintro e w1 ⟨rfl, r1, b1, s1⟩
  go_wp2_with fail
  refine (l20Task_any _ 0 0 _ r1 (by omega)).mono ?_
  rintro e w2 ⟨c, d, p, rfl, g2, r2⟩
  have B2 : Below w.heap.size w w2 := b1.trans (gb_to_below g2 (Nat.le_refl _) (by omega))
  go_wp2_with fail
  refine (specFormatTask_any c d p _).mono ?_
  rintro e w3 ⟨rfl, b3⟩
  have hl := fmtL_len c d p
  obtain ⟨l, hl'⟩ : ∃ l, l = fmtL c d p := ⟨_, rfl⟩
  rw [← hl'] at hl ⊢
  have r3 := r2.below b3
  have B3 := B2.trans (b3.mono B2.size)
  clear hl' g2 b1 r1 b3 r2 B2
  go_wp2_with fail
  refine (pick_any _ _ 4 _ r3 (by omega)).mono ?_
  rintro e w4 ⟨i, rfl, hi0, hi1, -, g4, r4⟩
  have hi1 := hi1 (by omega)
  have B4 := B3.trans (gb_to_below g4 (Nat.le_refl _) B3.size)
  clear g4 r3 B3
  have hi : i = 0 ∨ i = 1 ∨ 1 < i := by omega
  rcases hi with rfl | rfl | hi
  · clear hi0 hi1
    go_wp2_with fail
    refine (l20Mutate_any _ _ l _ r4 (by omega) (by omega)).mono ?_
    rintro e w5 ⟨m, rfl, hm, g5, r5⟩
    have B5 := Lib.hid (B4.trans (gb_to_below g5 (Nat.le_refl _) B4.size))
    clear g5 r5 B4 r4
    go_wp2
    go_ret
    exact ⟨m, rfl, by omega, B5.out⟩
  · clear hi0 hi1
    go_wp2_with fail
    obtain ⟨W4, hW4⟩ : ∃ W4, W4 = w4.alloc (.cells (svals tenL).toArray 9) := ⟨_, rfl⟩
    have hcl : ∀ j : Nat, j < 10 → ∃ m : List UInt8, m.length ≤ 20 ∧ W4.cell? ⟨w4.heap.size, j, none⟩ = some (.string (bs m)) := by
      intro j hj
      refine ⟨ln tenL j, ?_, ?_⟩
      · have : ∀ m ∈ tenL, m.length ≤ 20 := by decide
        rw [ln_get (show j < tenL.length from hj)]
        exact this _ (List.getElem_mem _)
      · have h := svals_at (show j < tenL.length from hj)
        rw [hW4]
        simp [go_sem, ← Array.getElem?_toList, h]
        rfl
    have r4' : Rd W4 w.heap.size (0 + 10 + 1) := by rw [hW4]; exact r4.alloc _
    have B4' : Below w.heap.size w W4 := by rw [hW4]; exact B4.alloc B4.size _
    have hlt4 : w4.heap.size < W4.heap.size := by rw [hW4]; simp
    have hrb : w.heap.size < w4.heap.size := r4.lt
    refine Eq.mp (congrArg (fun X => Calls Tryd.prog _ _ X _) hW4) ?_
    clear hW4 r4 B4
    refine (pick_any _ _ 10 _ r4' (by omega)).mono ?_
    rintro e w5 ⟨i, rfl, hi0, hi1, -, g5, r5⟩
    have hi1 := hi1 (by omega)
    obtain ⟨j, rfl⟩ : ∃ j : Nat, i = j := ⟨i.toNat, by omega⟩
    obtain ⟨m, hm, hc⟩ := hcl j (by omega)
    have hc5 : w5.cell? ⟨w4.heap.size, j, none⟩ = some (.string (bs m)) := (gb_cell g5 (p := ⟨w4.heap.size, j, none⟩) hlt4 (by simp only; omega)).trans hc
    have B5 := Lib.hid (B4'.trans (gb_to_below g5 (Nat.le_refl _) B4'.size))
    have HM := Lib.hid hm
    clear hcl hc B4' g5 r4' hlt4 hrb r5 hm
    go_wp2
    go_ret
    exact ⟨m, rfl, HM.out, B5.out⟩
  · have e0 : (i == 0) = false := by rw [beq_eq_false_iff_ne]; omega
    have e1 : (i == 1) = false := by rw [beq_eq_false_iff_ne]; omega
    have HB := Lib.hid B4
    clear hi0 hi1 hi B4 r4
    go_wp2
    go_ret
    exact ⟨l, rfl, by omega, HB.out⟩

end Go.Proofs.YtdgihkmiolnglaaDoor
