/- Contracts of the reference's FormatTask and ParseTask, and of l10Times. Conditions: those of each theorem. -/
import Derived.Test.YtdgihkmiolnglaaGreatDoorTxtSpec
import Derived.Test.YtdgihkmiolnglaaGreatDoorBase
namespace Go.Proofs.YtdgihkmiolnglaaGreatDoor
open Go.RowKit Go.Deep

set_option maxRecDepth 100000 in
set_option maxHeartbeats 1000000 in
/-- spec.FormatTask. -/
theorem specFormatTask_any (c d p : Int) (w : World) :
    Calls Tryz.prog 20 #[.agg #[.int .i64 c, .int .i64 d, .int .i64 p]] w fun e w' => e = .returned (.string (bs (fmtL c d p))) ∧ Below w.heap.size w w' := by
  obtain ⟨W, hW⟩ : ∃ W, W = w.alloc (.cells #[.int .i64 c, .int .i64 d, .int .i64 p] 29) := ⟨_, rfl⟩
  have BW : Below w.heap.size w W := by rw [hW]; exact below_box _ _
  have c0 : W.cell? ⟨w.heap.size, 0, none⟩ = some (.int .i64 c) := by rw [hW]; simp [go_sem]
  have c1 : W.cell? ⟨w.heap.size, 1, none⟩ = some (.int .i64 d) := by rw [hW]; simp [go_sem]
  have c2 : W.cell? ⟨w.heap.size, 2, none⟩ = some (.int .i64 p) := by rw [hW]; simp [go_sem]
  have hlt : w.heap.size < W.heap.size := by rw [hW]; simp
  have HW := Lib.hid hW
  have HB := Lib.hid BW
  clear hW BW
  cases hv : tvB c d p with
  | false =>
    have HF := Lib.hid (show fmtL c d p = [] by rw [fmtL, if_neg (by rw [hv]; decide)])
    go_enter Tryz.func20, Tryz.ntmps20
    go_wp2_with fail
    rw [← HW.out]
    refine (specTaskValid_any c d p _).mono ?_
    rintro e w1 ⟨rfl, b1⟩
    rw [hv]
    have B1 := Lib.hid (HB.out.trans (b1.mono HB.out.size))
    clear b1 c0 c1 c2
    go_wp2
    go_ret
    exact ⟨ret_str (l := []) HF.out.symm, B1.out⟩
  | true =>
    obtain ⟨x, y, z, rfl, rfl, rfl, q1, q2, q3, q4, q5⟩ := tvB_nat hv
    have HF := Lib.hid (show fmtL x y z = fmtT x y z by rw [fmtL, if_pos hv]; rfl)
    go_enter Tryz.func20, Tryz.ntmps20
    go_wp2_with fail
    rw [← HW.out]
    refine (specTaskValid_any x y z _).mono ?_
    rintro e w1 ⟨rfl, b1⟩
    rw [hv]
    have B1 := Lib.hid (HB.out.trans (b1.mono HB.out.size))
    have hW1 := b1.size
    have cl : ∀ j, w1.cell? ⟨w.heap.size, j, none⟩ = W.cell? ⟨w.heap.size, j, none⟩ := fun j => b1.cell (p := ⟨w.heap.size, j, none⟩) hlt
    rw [← cl 0] at c0
    rw [← cl 1] at c1
    rw [← cl 2] at c2
    clear b1 cl HW hv
    have hs1 := B1.out.size
    have lx := dec_len_small (show x < 100 by omega)
    have ly := dec_len_small (show y < 100 by omega)
    have lz := dec_len_small (show z < 100 by omega)
    have d0 : ([116, 97, 115, 107, 32] : List UInt8).length = 5 := rfl
    have d1 : ([32] : List UInt8).length = 1 := rfl
    obtain ⟨X, hX⟩ : ∃ X, X = Lib.decDigits x := ⟨_, rfl⟩
    obtain ⟨Y, hY⟩ : ∃ Y, Y = Lib.decDigits y := ⟨_, rfl⟩
    obtain ⟨Z, hZ⟩ : ∃ Z, Z = Lib.decDigits z := ⟨_, rfl⟩
    rw [← hX] at lx
    rw [← hY] at ly
    rw [← hZ] at lz
    obtain ⟨A1, hA1⟩ : ∃ A, A = [116, 97, 115, 107, 32] ++ X := ⟨_, rfl⟩
    obtain ⟨A2, hA2⟩ : ∃ A, A = A1 ++ [32] := ⟨_, rfl⟩
    obtain ⟨A3, hA3⟩ : ∃ A, A = A2 ++ Y := ⟨_, rfl⟩
    obtain ⟨A4, hA4⟩ : ∃ A, A = A3 ++ [32] := ⟨_, rfl⟩
    obtain ⟨A5, hA5⟩ : ∃ A, A = A4 ++ Z := ⟨_, rfl⟩
    have l1 : A1.length ≤ 7 := by rw [hA1, List.length_append]; omega
    have l2 : A2.length ≤ 8 := by rw [hA2, List.length_append]; omega
    have l3 : A3.length ≤ 10 := by rw [hA3, List.length_append]; omega
    have l4 : A4.length ≤ 11 := by rw [hA4, List.length_append]; omega
    have s1 : ∀ w : World, (Op.stringOp .add ⟨#[116, 97, 115, 107, 32]⟩ (bs X)).run Tryz.prog w = .ok (.string (bs A1)) w := fun w => by rw [hA1]; exact run_add_bs w _ _ (by omega)
    have s2 : ∀ w : World, (Op.stringOp .add (bs A1) ⟨#[32]⟩).run Tryz.prog w = .ok (.string (bs A2)) w := fun w => by rw [hA2]; exact run_add_bs w _ [32] (by omega)
    have s3 : ∀ w : World, (Op.stringOp .add (bs A2) (bs Y)).run Tryz.prog w = .ok (.string (bs A3)) w := fun w => by rw [hA3]; exact run_add_bs w _ _ (by omega)
    have s4 : ∀ w : World, (Op.stringOp .add (bs A3) ⟨#[32]⟩).run Tryz.prog w = .ok (.string (bs A4)) w := fun w => by rw [hA4]; exact run_add_bs w _ [32] (by omega)
    have s5 : ∀ w : World, (Op.stringOp .add (bs A4) (bs Z)).run Tryz.prog w = .ok (.string (bs A5)) w := fun w => by rw [hA5]; exact run_add_bs w _ _ (by omega)
    have hfin : fmtT x y z = A5 := by rw [hA5, hA4, hA3, hA2, hA1, hX, hY, hZ, fmtT, kwT]; simp
    have HFIN := Lib.hid (HF.out.trans hfin)
    have HX := Lib.hid hX.symm
    have HY := Lib.hid hY.symm
    have HZ := Lib.hid hZ.symm
    have hwlt : w.heap.size < w1.heap.size := by omega
    clear hA1 hA2 hA3 hA4 hA5 hX hY hZ lx ly lz l1 l2 l3 l4 d0 d1 hfin HF
    go_wp2_with fail
    refine wp_region_held_drew (S := fun v => v.cell? ⟨w.heap.size, 0, none⟩ = some (.int .i64 (x : Int)) ∧ v.cell? ⟨w.heap.size, 1, none⟩ = some (.int .i64 (y : Int)) ∧ v.cell? ⟨w.heap.size, 2, none⟩ = some (.int .i64 (z : Int)) ∧ Below w.heap.size w v ∧ w.heap.size < v.heap.size) (by kernel_rfl) ?_ (fun hHeld => ?_)
    · (try dsimp only)
      exact ⟨c0, c1, c2, B1.out.drew, hwlt⟩
    refine wpAnyH_take (i := 0) (v := ?_) (toArr_get _ 0 _ rfl) (by kernel_rfl) (by kernel_rfl) (by kernel_rfl) (fun _ _ _ h => h) (Or.inl ⟨by rfl, ?_⟩) (by assumption) ?_
    rotate_left
    · (intro w hSw; (try dsimp only at hSw); go_simp; (try with_reducible rfl))
    (try simp only [Act.put, List.setIfInBounds_toArray, List.set_cons_zero, List.set_cons_succ])
    refine wpAnyH_take (i := 1) (v := ?_) (toArr_get _ 1 _ rfl) (by kernel_rfl) (by kernel_rfl) (by kernel_rfl) (fun _ _ _ h => h) (Or.inl ⟨by rfl, ?_⟩) (by assumption) ?_
    rotate_left
    · (intro w hSw; (try dsimp only at hSw); go_simp; (try with_reducible rfl))
    (try simp only [Act.put, List.setIfInBounds_toArray, List.set_cons_zero, List.set_cons_succ])
    refine wpAnyH_take (i := 5) (v := ?_) (toArr_get _ 5 _ rfl) (by kernel_rfl) (by kernel_rfl) (by kernel_rfl) (fun _ _ _ h => h) (Or.inl ⟨by rfl, ?_⟩) (by assumption) ?_
    rotate_left
    · (intro w hSw; (try dsimp only at hSw); go_simp; (try with_reducible rfl))
    (try simp only [Act.put, List.setIfInBounds_toArray, List.set_cons_zero, List.set_cons_succ])
    refine wpAnyH_take (i := 6) (v := ?_) (toArr_get _ 6 _ rfl) (by kernel_rfl) (by kernel_rfl) (by kernel_rfl) (fun _ _ _ h => h) (Or.inl ⟨by rfl, ?_⟩) (by assumption) ?_
    rotate_left
    · (intro w hSw; (try dsimp only at hSw); go_simp; (try with_reducible rfl))
    (try simp only [Act.put, List.setIfInBounds_toArray, List.set_cons_zero, List.set_cons_succ])
    refine wpAnyH_take (i := 10) (v := ?_) (toArr_get _ 10 _ rfl) (by kernel_rfl) (by kernel_rfl) (by kernel_rfl) (fun _ _ _ h => h) (Or.inl ⟨by rfl, ?_⟩) (by assumption) ?_
    rotate_left
    · (intro w hSw; (try dsimp only at hSw); go_simp; (try with_reducible rfl))
    (try simp only [Act.put, List.setIfInBounds_toArray, List.set_cons_zero, List.set_cons_succ])
    refine wpAnyH_take (i := 11) (v := ?_) (toArr_get _ 11 _ rfl) (by kernel_rfl) (by kernel_rfl) (by kernel_rfl) (fun _ _ _ h => h) (Or.inl ⟨by rfl, ?_⟩) (by assumption) ?_
    rotate_left
    · (intro w hSw; (try dsimp only at hSw); go_simp; (try with_reducible rfl))
    (try simp only [Act.put, List.setIfInBounds_toArray, List.set_cons_zero, List.set_cons_succ])
    refine wpAnyH_ready (rs := [2]) (by kernel_rfl) (by simp) ?_
    refine AllReadyH.cons (toArr_get _ 2 _ rfl) (fun K hK => ?_) ?_
    · go_simp
      refine (l10Plain_any x _ (by omega)).mono ?_
      rintro e v2 ⟨rfl, b2⟩
      rw [HX.out]
      go_wp2_with fail
      refine hK.out _ _ ?_ (fun hHeld2 => ?_)
      · (try dsimp only)
        obtain ⟨k0, k1, k2, kb, kl⟩ := hHeld; exact ⟨(b2.cell (p := ⟨w.heap.size, 0, none⟩) kl).trans k0, (b2.cell (p := ⟨w.heap.size, 1, none⟩) kl).trans k1, (b2.cell (p := ⟨w.heap.size, 2, none⟩) kl).trans k2, kb.trans (b2.mono kb.size), Nat.lt_of_lt_of_le kl b2.size⟩
      clear hK K hHeld
      have hHeld := hHeld2
      clear hHeld2
      (try simp only [Act.put, List.setIfInBounds_toArray, List.set_cons_zero, List.set_cons_succ])
      refine wpAnyH_take (i := 3) (v := ?_) (toArr_get _ 3 _ rfl) (by kernel_rfl) (by kernel_rfl) (by kernel_rfl) (fun _ _ _ h => h) (Or.inl ⟨by rfl, ?_⟩) (by assumption) ?_
      rotate_left
      · (intro w hSw; (try dsimp only at hSw); go_simp; (try with_reducible rfl))
      (try simp only [Act.put, List.setIfInBounds_toArray, List.set_cons_zero, List.set_cons_succ])
      refine wpAnyH_take (i := 4) (v := ?_) (toArr_get _ 4 _ rfl) (by kernel_rfl) (by kernel_rfl) (by kernel_rfl) (fun _ _ _ h => h) (Or.inl ⟨by rfl, ?_⟩) (by assumption) ?_
      rotate_left
      · (intro w hSw; (try dsimp only at hSw); go_simp; (try with_reducible rfl))
      (try simp only [Act.put, List.setIfInBounds_toArray, List.set_cons_zero, List.set_cons_succ])
      refine wpAnyH_ready (rs := [7]) (by kernel_rfl) (by simp) ?_
      refine AllReadyH.cons (toArr_get _ 7 _ rfl) (fun K hK => ?_) ?_
      · go_simp
        refine (l10Plain_any y _ (by omega)).mono ?_
        rintro e v2 ⟨rfl, b2⟩
        rw [HY.out]
        go_wp2_with fail
        refine hK.out _ _ ?_ (fun hHeld2 => ?_)
        · (try dsimp only)
          obtain ⟨k0, k1, k2, kb, kl⟩ := hHeld; exact ⟨(b2.cell (p := ⟨w.heap.size, 0, none⟩) kl).trans k0, (b2.cell (p := ⟨w.heap.size, 1, none⟩) kl).trans k1, (b2.cell (p := ⟨w.heap.size, 2, none⟩) kl).trans k2, kb.trans (b2.mono kb.size), Nat.lt_of_lt_of_le kl b2.size⟩
        clear hK K hHeld
        have hHeld := hHeld2
        clear hHeld2
        (try simp only [Act.put, List.setIfInBounds_toArray, List.set_cons_zero, List.set_cons_succ])
        refine wpAnyH_take (i := 8) (v := ?_) (toArr_get _ 8 _ rfl) (by kernel_rfl) (by kernel_rfl) (by kernel_rfl) (fun _ _ _ h => h) (Or.inl ⟨by rfl, ?_⟩) (by assumption) ?_
        rotate_left
        · (intro w hSw; (try dsimp only at hSw); go_simp; (try with_reducible rfl))
        (try simp only [Act.put, List.setIfInBounds_toArray, List.set_cons_zero, List.set_cons_succ])
        refine wpAnyH_take (i := 9) (v := ?_) (toArr_get _ 9 _ rfl) (by kernel_rfl) (by kernel_rfl) (by kernel_rfl) (fun _ _ _ h => h) (Or.inl ⟨by rfl, ?_⟩) (by assumption) ?_
        rotate_left
        · (intro w hSw; (try dsimp only at hSw); go_simp; (try with_reducible rfl))
        (try simp only [Act.put, List.setIfInBounds_toArray, List.set_cons_zero, List.set_cons_succ])
        refine wpAnyH_ready (rs := [12]) (by kernel_rfl) (by simp) ?_
        refine AllReadyH.cons (toArr_get _ 12 _ rfl) (fun K hK => ?_) ?_
        · go_simp
          refine (l10Plain_any z _ (by omega)).mono ?_
          rintro e v2 ⟨rfl, b2⟩
          rw [HZ.out]
          go_wp2_with fail
          refine hK.out _ _ ?_ (fun hHeld2 => ?_)
          · (try dsimp only)
            obtain ⟨k0, k1, k2, kb, kl⟩ := hHeld; exact ⟨(b2.cell (p := ⟨w.heap.size, 0, none⟩) kl).trans k0, (b2.cell (p := ⟨w.heap.size, 1, none⟩) kl).trans k1, (b2.cell (p := ⟨w.heap.size, 2, none⟩) kl).trans k2, kb.trans (b2.mono kb.size), Nat.lt_of_lt_of_le kl b2.size⟩
          clear hK K hHeld
          have hHeld := hHeld2
          clear hHeld2
          (try simp only [Act.put, List.setIfInBounds_toArray, List.set_cons_zero, List.set_cons_succ])
          refine wpAnyH_take (i := 13) (v := ?_) (toArr_get _ 13 _ rfl) (by kernel_rfl) (by kernel_rfl) (by kernel_rfl) (fun _ _ _ h => h) (Or.inl ⟨by rfl, ?_⟩) (by assumption) ?_
          rotate_left
          · (intro w hSw; (try dsimp only at hSw); go_simp; (try with_reducible rfl))
          (try simp only [Act.put, List.setIfInBounds_toArray, List.set_cons_zero, List.set_cons_succ])
          refine wpAnyH_take (i := 14) (v := ?_) (toArr_get _ 14 _ rfl) (by kernel_rfl) (by kernel_rfl) (by kernel_rfl) (fun _ _ _ h => h) (Or.inl ⟨by rfl, ?_⟩) (by assumption) ?_
          rotate_left
          · (intro w hSw; (try dsimp only at hSw); go_simp; (try with_reducible rfl))
          (try simp only [Act.put, List.setIfInBounds_toArray, List.set_cons_zero, List.set_cons_succ])
          refine wpAnyH_done (by kernel_rfl) ?_ _
          go_wp2
          go_ret
          exact ⟨ret_str HFIN.out.symm, hHeld.2.2.2.1⟩
        exact AllReadyH.nil
      exact AllReadyH.nil
    exact AllReadyH.nil
theorem len_flatten_mem {L : List (List UInt8)} {x : List UInt8} (h : x ∈ L) : x.length + 1 ≤ (L.map fun w => w ++ [32]).flatten.length := by
  induction L with
  | nil => cases h
  | cons a L ih =>
    rw [List.map_cons, List.flatten_cons, List.length_append, List.length_append, List.length_singleton]
    rcases List.mem_cons.1 h with rfl | h
    · omega
    · have := ih h; omega
/-- What ParseTask returns: a task and whether the line holds it. -/
def GotTask (w : World) (l : List UInt8) (e : Ending) (w' : World) : Prop :=
  (∃ (c d p : Int) (ok : Bool), e = .returned (.tuple #[.agg #[.int .i64 c, .int .i64 d, .int .i64 p], .bool ok]) ∧ Parsed l c d p ok) ∧ Below w.heap.size w w'
theorem cell3_far {v : World} {KB b : Nat} (x y z : Value) (h : b ≠ KB) (o : Nat) : (((v.setCell ⟨KB, 0, none⟩ x).setCell ⟨KB, 1, none⟩ y).setCell ⟨KB, 2, none⟩ z).cell? ⟨b, o, none⟩ = v.cell? ⟨b, o, none⟩ := by
  rw [World.cell?_of_block (a := ⟨b, o, none⟩) (Below.heap_setCell _ ⟨KB, 2, none⟩ z b h), World.cell?_of_block (a := ⟨b, o, none⟩) (Below.heap_setCell _ ⟨KB, 1, none⟩ y b h), World.cell?_of_block (a := ⟨b, o, none⟩) (Below.heap_setCell _ ⟨KB, 0, none⟩ x b h)]
theorem frozen3_far {v : World} {KB b : Nat} (x y z : Value) (h : b ≠ KB) (o : Nat) : (((v.setCell ⟨KB, 0, none⟩ x).setCell ⟨KB, 1, none⟩ y).setCell ⟨KB, 2, none⟩ z).frozen? ⟨b, o, none⟩ = v.frozen? ⟨b, o, none⟩ := by
  rw [World.frozen?_of_block (a := ⟨b, o, none⟩) (Below.heap_setCell _ ⟨KB, 2, none⟩ z b h), World.frozen?_of_block (a := ⟨b, o, none⟩) (Below.heap_setCell _ ⟨KB, 1, none⟩ y b h), World.frozen?_of_block (a := ⟨b, o, none⟩) (Below.heap_setCell _ ⟨KB, 0, none⟩ x b h)]
theorem below_set3' {w w1 : World} {n KB : Nat} (h : Below n w w1) (hK : n ≤ KB) (x y z : Value) : Below n w (((w1.setCell ⟨KB, 0, none⟩ x).setCell ⟨KB, 1, none⟩ y).setCell ⟨KB, 2, none⟩ z) :=
  ((h.setCell hK _).setCell hK _).setCell hK _
theorem below_set3 {w w1 : World} (h : Below w.heap.size w w1) (x y z : Value) : Below w.heap.size w (((w1.setCell ⟨w.heap.size, 0, none⟩ x).setCell ⟨w.heap.size, 1, none⟩ y).setCell ⟨w.heap.size, 2, none⟩ z) :=
  ((h.setCell (by simp) _).setCell (by simp) _).setCell (by simp) _
theorem got_not {w w' : World} {l : List UInt8} (h : ∀ c d p, ¬ IsT l c d p) (hb : Below w.heap.size w w') : GotTask w l (.returned (.tuple #[.agg #[.int .i64 0, .int .i64 0, .int .i64 0], .bool false])) w' := ⟨⟨0, 0, 0, false, rfl, .inr ⟨rfl, rfl, rfl, rfl, h⟩⟩, hb⟩

set_option maxRecDepth 100000 in
set_option maxHeartbeats 1000000 in
/-- spec.ParseTask. -/
theorem specParseTask_any (l : List UInt8) (w : World) (hl : l.length ≤ 1048576) :
    Calls Tryz.prog 29 #[.string (bs l)] w (GotTask w l) := by
  have hs : (bs l).size = l.length := bs_size l
  have hb0 := below_box w (.cells #[.int .i64 0, .int .i64 0, .int .i64 0] 29)
  have HB0 := Lib.hid hb0
  clear hb0
  go_enter Tryz.func29, Tryz.ntmps29
  go_wp2_with fail
  refine (l10Fields_any l _ hl).mono ?_
  rintro e w1 ⟨⟨v, rfl, hO⟩, b1⟩
  obtain ⟨oa, ocap, rfl⟩ := hO.shape
  have B1 := Lib.hid (HB0.out.trans (b1.mono HB0.out.size))
  have q0 : w1.cell? ⟨w.heap.size, 0, none⟩ = some (.int .i64 0) := (b1.cell (p := ⟨w.heap.size, 0, none⟩) (by simp)).trans (by simp [go_sem])
  have q1 : w1.cell? ⟨w.heap.size, 1, none⟩ = some (.int .i64 0) := (b1.cell (p := ⟨w.heap.size, 1, none⟩) (by simp)).trans (by simp [go_sem])
  have q2 : w1.cell? ⟨w.heap.size, 2, none⟩ = some (.int .i64 0) := (b1.cell (p := ⟨w.heap.size, 2, none⟩) (by simp)).trans (by simp [go_sem])
  have z0 : w1.frozen? ⟨w.heap.size, 0, none⟩ = false := (b1.frozen (p := ⟨w.heap.size, 0, none⟩) (by simp)).trans (by simp [go_sem])
  have z1 : w1.frozen? ⟨w.heap.size, 1, none⟩ = false := (b1.frozen (p := ⟨w.heap.size, 1, none⟩) (by simp)).trans (by simp [go_sem])
  have z2 : w1.frozen? ⟨w.heap.size, 2, none⟩ = false := (b1.frozen (p := ⟨w.heap.size, 2, none⟩) (by simp)).trans (by simp [go_sem])
  have HO := Lib.hid hO
  clear hO b1
  by_cases h20 : 20 < l.length
  · have h20' : (20 : Int) < (l.length : Nat) := by omega
    have HN := Lib.hid (isT_not_of_len h20)
    clear h20
    go_wp2
    refine bodyPost_ret (v := .tuple #[.agg #[.int .i64 0, .int .i64 0, .int .i64 0], .bool false]) ?_ rfl (got_not HN.out (below_set3 B1.out _ _ _))
    simp [results, Tryz.results29, go_sem, q0, q1, q2]
  have h20d : decide ((20 : Int) < (l.length : Nat)) = false := decide_eq_false (by omega)
  by_cases h4 : (fall l).length = 4
  · obtain ⟨f0, f1, f2, f3, hf⟩ : ∃ f0 f1 f2 f3, fall l = [f0, f1, f2, f3] := by
      match hm : fall l, h4 with
      | [a, b, c, d], _ => exact ⟨a, b, c, d, rfl⟩
    have R := HO.out.rowL
    rw [hf] at R
    obtain ⟨b, off, rfl, hblt, k0⟩ := R 0 (by simp)
    obtain ⟨b', off', e1, -, k1⟩ := R 1 (by simp)
    obtain ⟨b2', off2', e2, -, k2⟩ := R 2 (by simp)
    obtain ⟨b3', off3', e3, -, k3⟩ := R 3 (by simp)
    simp only [Option.some.injEq, Addr.mk.injEq, and_true] at e1 e2 e3
    obtain ⟨rfl, rfl⟩ := e1
    obtain ⟨rfl, rfl⟩ := e2
    obtain ⟨rfl, rfl⟩ := e3
    rw [show ln [f0, f1, f2, f3] 0 = f0 from rfl, Nat.add_zero] at k0
    rw [show ln [f0, f1, f2, f3] 1 = f1 from rfl] at k1
    rw [show ln [f0, f1, f2, f3] 2 = f2 from rfl] at k2
    rw [show ln [f0, f1, f2, f3] 3 = f3 from rfl] at k3
    have hbg := ((HO.out.lt b rfl).1)
    simp at hbg
    have hl4 : (((fall l).length : Nat) : Int) = 4 := by omega
    have HFL := Lib.hid hf
    have HL4 := Lib.hid hl4
    clear R
    rw [h4]
    clear h4 hf
    by_cases hk : f0 = kwT
    · have hkb : ((bs f0).toList == [116, 97, 115, 107]) = true := by rw [beq_iff_eq, bs_toList]; exact hk
      have hff := HFL.out
      rw [hk] at hff
      have HK := Lib.hid hff
      clear hk hff
      have len1 : ∀ x ∈ fall l, x.length ≤ l.length := by
        intro x hx
        have h := congrArg List.length (joined_flds l)
        rw [fall] at hx
        rcases List.mem_append.1 hx with h1 | h1
        · have : x.length + 1 ≤ (joined (flds l)).length := by
            rw [joined, List.length_append]
            have := len_flatten_mem h1
            omega
          omega
        · simp only [List.mem_singleton] at h1
          subst h1
          rw [joined, List.length_append] at h
          omega
      have m1 : f1.length ≤ 1048576 := Nat.le_trans (len1 f1 (by rw [HFL.out]; simp)) hl
      have m2 : f2.length ≤ 1048576 := Nat.le_trans (len1 f2 (by rw [HFL.out]; simp)) hl
      have m3 : f3.length ≤ 1048576 := Nat.le_trans (len1 f3 (by rw [HFL.out]; simp)) hl
      have hw1 := B1.out.size
      have hwn : w.heap.size ≠ w1.heap.size := by have := HB0.out.size; have := (HO.out.lt b rfl).1; simp at this; omega
      have hwl : w.heap.size < w1.heap.size := by omega
      clear len1
      go_wp2
      refine wp_region_held_drew (S := fun v => v.cell? ⟨b, off + 1, none⟩ = some (.string (bs f1)) ∧ v.cell? ⟨b, off + 2, none⟩ = some (.string (bs f2)) ∧ v.cell? ⟨b, off + 3, none⟩ = some (.string (bs f3)) ∧ Below w1.heap.size w1 v) (by kernel_rfl) ?_ (fun hHeld => ?_)
      · (try dsimp only)
        exact ⟨k1, k2, k3, (Below.refl _ _).drew⟩
      obtain ⟨v0, hv0⟩ : ∃ v, v = w1.drew := ⟨_, rfl⟩
      rw [← hv0] at hHeld ⊢
      clear hv0
      refine wpAnyH_take (i := 0) (v := ?_) (toArr_get _ 0 _ rfl) (by kernel_rfl) (by kernel_rfl) (by kernel_rfl) (fun _ _ _ h => h) (Or.inl ⟨by rfl, ?_⟩) (by assumption) ?_
      rotate_left
      · (intro w hSw; (try dsimp only at hSw); go_simp; (try with_reducible rfl))
      (try simp only [Act.put, List.setIfInBounds_toArray, List.set_cons_zero, List.set_cons_succ])
      refine wpAnyH_take (i := 1) (v := ?_) (toArr_get _ 1 _ rfl) (by kernel_rfl) (by kernel_rfl) (by kernel_rfl) (fun _ _ _ h => h) (Or.inl ⟨by rfl, ?_⟩) (by assumption) ?_
      rotate_left
      · (intro w hSw; (try dsimp only at hSw); go_simp; (try with_reducible rfl))
      (try simp only [Act.put, List.setIfInBounds_toArray, List.set_cons_zero, List.set_cons_succ])
      refine wpAnyH_take (i := 2) (v := ?_) (toArr_get _ 2 _ rfl) (by kernel_rfl) (by kernel_rfl) (by kernel_rfl) (fun _ _ _ h => h) (Or.inl ⟨by rfl, ?_⟩) (by assumption) ?_
      rotate_left
      · (intro w hSw; (try dsimp only at hSw); go_simp; (try with_reducible rfl))
      (try simp only [Act.put, List.setIfInBounds_toArray, List.set_cons_zero, List.set_cons_succ])
      refine wpAnyH_take (i := 4) (v := ?_) (toArr_get _ 4 _ rfl) (by kernel_rfl) (by kernel_rfl) (by kernel_rfl) (fun _ _ _ h => h) (Or.inl ⟨by rfl, ?_⟩) (by assumption) ?_
      rotate_left
      · (intro w hSw; (try dsimp only at hSw); go_simp; (try with_reducible rfl))
      (try simp only [Act.put, List.setIfInBounds_toArray, List.set_cons_zero, List.set_cons_succ])
      refine wpAnyH_take (i := 5) (v := ?_) (toArr_get _ 5 _ rfl) (by kernel_rfl) (by kernel_rfl) (by kernel_rfl) (fun _ _ _ h => h) (Or.inl ⟨by rfl, ?_⟩) (by assumption) ?_
      rotate_left
      · (intro w hSw; (try dsimp only at hSw); go_simp; (try with_reducible rfl))
      (try simp only [Act.put, List.setIfInBounds_toArray, List.set_cons_zero, List.set_cons_succ])
      refine wpAnyH_take (i := 6) (v := ?_) (toArr_get _ 6 _ rfl) (by kernel_rfl) (by kernel_rfl) (by kernel_rfl) (fun _ _ _ h => h) (Or.inl ⟨by rfl, ?_⟩) (by assumption) ?_
      rotate_left
      · (intro w hSw; (try dsimp only at hSw); go_simp; (try with_reducible rfl))
      (try simp only [Act.put, List.setIfInBounds_toArray, List.set_cons_zero, List.set_cons_succ])
      refine wpAnyH_take (i := 8) (v := ?_) (toArr_get _ 8 _ rfl) (by kernel_rfl) (by kernel_rfl) (by kernel_rfl) (fun _ _ _ h => h) (Or.inl ⟨by rfl, ?_⟩) (by assumption) ?_
      rotate_left
      · (intro w hSw; (try dsimp only at hSw); go_simp; (try with_reducible rfl))
      (try simp only [Act.put, List.setIfInBounds_toArray, List.set_cons_zero, List.set_cons_succ])
      refine wpAnyH_take (i := 9) (v := ?_) (toArr_get _ 9 _ rfl) (by kernel_rfl) (by kernel_rfl) (by kernel_rfl) (fun _ _ _ h => h) (Or.inl ⟨by rfl, ?_⟩) (by assumption) ?_
      rotate_left
      · (intro w hSw; (try dsimp only at hSw); go_simp; (try with_reducible rfl))
      (try simp only [Act.put, List.setIfInBounds_toArray, List.set_cons_zero, List.set_cons_succ])
      refine wpAnyH_take (i := 10) (v := ?_) (toArr_get _ 10 _ rfl) (by kernel_rfl) (by kernel_rfl) (by kernel_rfl) (fun _ _ _ h => h) (Or.inl ⟨by rfl, ?_⟩) (by assumption) ?_
      rotate_left
      · (intro w hSw; (try dsimp only at hSw); go_simp; (try with_reducible rfl))
      (try simp only [Act.put, List.setIfInBounds_toArray, List.set_cons_zero, List.set_cons_succ])
      refine wpAnyH_ready (rs := [3, 13]) (by kernel_rfl) (by simp) ?_
      refine AllReadyH.cons (toArr_get _ 3 _ rfl) (fun K hK => ?_) ?_
      · go_simp
        refine (l10Num_any f1 _ m1).mono ?_
        rintro e v1 ⟨rfl, b1⟩
        have BB := b1
        go_wp2_with fail
        refine hK.out _ _ ?_ (fun hHeld2 => ?_)
        · (try dsimp only)
          obtain ⟨u1, u2, u3, ub⟩ := hHeld; exact ⟨(BB.cell (p := ⟨b, off + 1, none⟩) (Nat.lt_of_lt_of_le hblt ub.size)).trans u1, (BB.cell (p := ⟨b, off + 2, none⟩) (Nat.lt_of_lt_of_le hblt ub.size)).trans u2, (BB.cell (p := ⟨b, off + 3, none⟩) (Nat.lt_of_lt_of_le hblt ub.size)).trans u3, ub.trans (BB.mono ub.size)⟩
        clear hK K hHeld
        have hHeld := hHeld2
        clear hHeld2
        (try simp only [Act.put, List.setIfInBounds_toArray, List.set_cons_zero, List.set_cons_succ])
        refine wpAnyH_ready (rs := [7, 13]) (by kernel_rfl) (by simp) ?_
        refine AllReadyH.cons (toArr_get _ 7 _ rfl) (fun K hK => ?_) ?_
        · go_simp
          refine (l10Num_any f2 _ m2).mono ?_
          rintro e v2 ⟨rfl, b2⟩
          have BB := b2
          go_wp2_with fail
          refine hK.out _ _ ?_ (fun hHeld2 => ?_)
          · (try dsimp only)
            obtain ⟨u1, u2, u3, ub⟩ := hHeld; exact ⟨(BB.cell (p := ⟨b, off + 1, none⟩) (Nat.lt_of_lt_of_le hblt ub.size)).trans u1, (BB.cell (p := ⟨b, off + 2, none⟩) (Nat.lt_of_lt_of_le hblt ub.size)).trans u2, (BB.cell (p := ⟨b, off + 3, none⟩) (Nat.lt_of_lt_of_le hblt ub.size)).trans u3, ub.trans (BB.mono ub.size)⟩
          clear hK K hHeld
          have hHeld := hHeld2
          clear hHeld2
          (try simp only [Act.put, List.setIfInBounds_toArray, List.set_cons_zero, List.set_cons_succ])
          refine wpAnyH_ready (rs := [11, 13]) (by kernel_rfl) (by simp) ?_
          refine AllReadyH.cons (toArr_get _ 11 _ rfl) (fun K hK => ?_) ?_
          · go_simp
            refine (l10Num_any f3 _ m3).mono ?_
            rintro e v3 ⟨rfl, b3⟩
            have BB := b3
            go_wp2_with fail
            refine hK.out _ _ ?_ (fun hHeld2 => ?_)
            · (try dsimp only)
              obtain ⟨u1, u2, u3, ub⟩ := hHeld; exact ⟨(BB.cell (p := ⟨b, off + 1, none⟩) (Nat.lt_of_lt_of_le hblt ub.size)).trans u1, (BB.cell (p := ⟨b, off + 2, none⟩) (Nat.lt_of_lt_of_le hblt ub.size)).trans u2, (BB.cell (p := ⟨b, off + 3, none⟩) (Nat.lt_of_lt_of_le hblt ub.size)).trans u3, ub.trans (BB.mono ub.size)⟩
            clear hK K hHeld
            have hHeld := hHeld2
            clear hHeld2
            (try simp only [Act.put, List.setIfInBounds_toArray, List.set_cons_zero, List.set_cons_succ])
            refine wpAnyH_take (i := 12) (v := ?_) (toArr_get _ 12 _ rfl) (by kernel_rfl) (by kernel_rfl) (by kernel_rfl) (fun _ _ _ h => h) (Or.inl ⟨by rfl, ?_⟩) (by assumption) ?_
            rotate_left
            · (intro w hSw; (try dsimp only at hSw); go_simp; (try with_reducible rfl))
            (try simp only [Act.put, List.setIfInBounds_toArray, List.set_cons_zero, List.set_cons_succ])
            refine wpAnyH_ready (rs := [13]) (by kernel_rfl) (by simp) ?_
            refine AllReadyH.cons (toArr_get _ 13 _ rfl) (fun K hK => ?_) ?_
            · go_simp
              obtain ⟨v4, hv⟩ : ∃ V, V = v3.alloc (.cells #[.int .i64 0, .int .i64 0, .int .i64 0] 29) := ⟨_, rfl⟩
              rw [← hv]
              have b4 : Below v3.heap.size v3 v4 := by rw [hv]; exact below_box _ _
              have BB := b4
              obtain ⟨KB, hKe⟩ : ∃ K, K = v3.heap.size := ⟨_, rfl⟩
              rw [← hKe]
              have hKlt : KB < v4.heap.size := by rw [hv, hKe]; simp
              have hK1 : w1.heap.size ≤ KB := by rw [hKe]; exact hHeld.2.2.2.size
              have y0 : v4.cell? ⟨KB, 0, none⟩ = some (.int .i64 0) := by rw [hv, hKe]; simp [go_sem]
              have y1 : v4.cell? ⟨KB, 1, none⟩ = some (.int .i64 0) := by rw [hv, hKe]; simp [go_sem]
              have y2 : v4.cell? ⟨KB, 2, none⟩ = some (.int .i64 0) := by rw [hv, hKe]; simp [go_sem]
              have j0 : v4.frozen? ⟨KB, 0, none⟩ = false := by rw [hv, hKe]; simp [go_sem]
              have j1 : v4.frozen? ⟨KB, 1, none⟩ = false := by rw [hv, hKe]; simp [go_sem]
              have j2 : v4.frozen? ⟨KB, 2, none⟩ = false := by rw [hv, hKe]; simp [go_sem]
              clear hv hKe
              refine hK.out _ _ ?_ (fun hHeld2 => ?_)
              · (try dsimp only)
                obtain ⟨u1, u2, u3, ub⟩ := hHeld; exact ⟨(BB.cell (p := ⟨b, off + 1, none⟩) (Nat.lt_of_lt_of_le hblt ub.size)).trans u1, (BB.cell (p := ⟨b, off + 2, none⟩) (Nat.lt_of_lt_of_le hblt ub.size)).trans u2, (BB.cell (p := ⟨b, off + 3, none⟩) (Nat.lt_of_lt_of_le hblt ub.size)).trans u3, ub.trans (BB.mono ub.size)⟩
              clear hK K hHeld
              have hHeld := hHeld2
              clear hHeld2
              (try simp only [Act.put, List.setIfInBounds_toArray, List.set_cons_zero, List.set_cons_succ])
              refine wpAnyH_ready (rs := [14]) (by kernel_rfl) (by simp) ?_
              refine AllReadyH.cons (toArr_get _ 14 _ rfl) (fun K hK => ?_) ?_
              · go_simp
                refine hK.out _ _ ?_ (fun hHeld2 => ?_)
                · (try dsimp only)
                  obtain ⟨u1, u2, u3, ub⟩ := hHeld; exact ⟨(cell3_far _ _ _ (by omega) _).trans u1, (cell3_far _ _ _ (by omega) _).trans u2, (cell3_far _ _ _ (by omega) _).trans u3, below_set3' ub hK1 _ _ _⟩
                clear hK K hHeld
                have hHeld := hHeld2
                clear hHeld2
                (try simp only [Act.put, List.setIfInBounds_toArray, List.set_cons_zero, List.set_cons_succ])
                refine wpAnyH_done (by kernel_rfl) ?_ _
                obtain ⟨-, -, -, ub⟩ := hHeld
                obtain ⟨A, hA⟩ : ∃ A, A = num2 f1 := ⟨_, rfl⟩
                obtain ⟨B, hB⟩ : ∃ B, B = num2 f2 := ⟨_, rfl⟩
                obtain ⟨C, hC⟩ : ∃ C, C = num2 f3 := ⟨_, rfl⟩
                have hT : ∀ hv : tvB A B C = true, IsT l A B C := fun hv => by rw [hA, hB, hC]; exact isT_fields HK.out (by rw [← hA, ← hB, ← hC]; exact hv)
                have hT' : ∀ hv : tvB A B C = false, ∀ c d p, ¬ IsT l c d p := fun hv => isT_not_of_tv HK.out (by rw [← hA, ← hB, ← hC]; exact hv)
                have HT := Lib.hid hT
                have HT' := Lib.hid hT'
                rw [← hA, ← hB, ← hC] at ub ⊢
                clear hA hB hC hT hT'
                go_wp2_with fail
                obtain ⟨W5, hW5⟩ : ∃ W5, W5 = ((v4.setCell ⟨KB, 0, none⟩ (.int .i64 A)).setCell ⟨KB, 1, none⟩ (.int .i64 B)).setCell ⟨KB, 2, none⟩ (.int .i64 C) := ⟨_, rfl⟩
                rw [← hW5] at ub ⊢
                have y0 : W5.cell? ⟨KB, 0, none⟩ = some (.int .i64 A) := by rw [hW5]; simp [go_sem, y0]
                have y1 : W5.cell? ⟨KB, 1, none⟩ = some (.int .i64 B) := by rw [hW5]; simp [go_sem, y1]
                have y2 : W5.cell? ⟨KB, 2, none⟩ = some (.int .i64 C) := by rw [hW5]; simp [go_sem, y2]
                have hKl : KB < W5.heap.size := by rw [hW5]; simpa [World.setCell] using hKlt
                clear hW5 j0 j1 j2 hKlt
                refine (specTaskValid_any A B C W5).mono ?_
                rintro e w6 ⟨rfl, b6⟩
                have y0 := (b6.cell (p := ⟨KB, 0, none⟩) hKl).trans y0
                have y1 := (b6.cell (p := ⟨KB, 1, none⟩) hKl).trans y1
                have y2 := (b6.cell (p := ⟨KB, 2, none⟩) hKl).trans y2
                have ub6 := ub.trans (b6.mono ub.size)
                have q0 := (ub6.cell (p := ⟨w.heap.size, 0, none⟩) hwl).trans q0
                have q1 := (ub6.cell (p := ⟨w.heap.size, 1, none⟩) hwl).trans q1
                have q2 := (ub6.cell (p := ⟨w.heap.size, 2, none⟩) hwl).trans q2
                have z0 := (ub6.frozen (p := ⟨w.heap.size, 0, none⟩) hwl).trans z0
                have z1 := (ub6.frozen (p := ⟨w.heap.size, 1, none⟩) hwl).trans z1
                have z2 := (ub6.frozen (p := ⟨w.heap.size, 2, none⟩) hwl).trans z2
                have B6 := Lib.hid (B1.out.trans (ub6.mono B1.out.size))
                have hwk : w.heap.size ≠ KB := by omega
                clear ub ub6 b6
                cases hv : tvB A B C with
                | false =>
                  have HN := Lib.hid (HT'.out hv)
                  go_wp2
                  refine bodyPost_ret (v := .tuple #[.agg #[.int .i64 0, .int .i64 0, .int .i64 0], .bool false]) ?_ rfl (got_not HN.out (below_set3 B6.out _ _ _))
                  simp [results, Tryz.results29, go_sem, q0, q1, q2]
                | true =>
                  have HN := Lib.hid (HT.out hv)
                  go_wp2
                  refine bodyPost_ret (v := .tuple #[.agg #[.int .i64 A, .int .i64 B, .int .i64 C], .bool true]) ?_ rfl ⟨⟨A, B, C, true, rfl, .inl ⟨rfl, HN.out⟩⟩, below_set3 B6.out _ _ _⟩
                  simp [results, Tryz.results29, go_sem, q0, q1, q2]
              exact AllReadyH.nil
            exact AllReadyH.nil
          refine AllReadyH.cons (toArr_get _ 13 _ rfl) (fun K hK => ?_) ?_
          · go_simp
            obtain ⟨v3, hv⟩ : ∃ V, V = v2.alloc (.cells #[.int .i64 0, .int .i64 0, .int .i64 0] 29) := ⟨_, rfl⟩
            rw [← hv]
            have b3 : Below v2.heap.size v2 v3 := by rw [hv]; exact below_box _ _
            have BB := b3
            obtain ⟨KB, hKe⟩ : ∃ K, K = v2.heap.size := ⟨_, rfl⟩
            rw [← hKe]
            have hKlt : KB < v3.heap.size := by rw [hv, hKe]; simp
            have hK1 : w1.heap.size ≤ KB := by rw [hKe]; exact hHeld.2.2.2.size
            have y0 : v3.cell? ⟨KB, 0, none⟩ = some (.int .i64 0) := by rw [hv, hKe]; simp [go_sem]
            have y1 : v3.cell? ⟨KB, 1, none⟩ = some (.int .i64 0) := by rw [hv, hKe]; simp [go_sem]
            have y2 : v3.cell? ⟨KB, 2, none⟩ = some (.int .i64 0) := by rw [hv, hKe]; simp [go_sem]
            have j0 : v3.frozen? ⟨KB, 0, none⟩ = false := by rw [hv, hKe]; simp [go_sem]
            have j1 : v3.frozen? ⟨KB, 1, none⟩ = false := by rw [hv, hKe]; simp [go_sem]
            have j2 : v3.frozen? ⟨KB, 2, none⟩ = false := by rw [hv, hKe]; simp [go_sem]
            clear hv hKe
            refine hK.out _ _ ?_ (fun hHeld2 => ?_)
            · (try dsimp only)
              obtain ⟨u1, u2, u3, ub⟩ := hHeld; exact ⟨(BB.cell (p := ⟨b, off + 1, none⟩) (Nat.lt_of_lt_of_le hblt ub.size)).trans u1, (BB.cell (p := ⟨b, off + 2, none⟩) (Nat.lt_of_lt_of_le hblt ub.size)).trans u2, (BB.cell (p := ⟨b, off + 3, none⟩) (Nat.lt_of_lt_of_le hblt ub.size)).trans u3, ub.trans (BB.mono ub.size)⟩
            clear hK K hHeld
            have hHeld := hHeld2
            clear hHeld2
            (try simp only [Act.put, List.setIfInBounds_toArray, List.set_cons_zero, List.set_cons_succ])
            refine wpAnyH_ready (rs := [11]) (by kernel_rfl) (by simp) ?_
            refine AllReadyH.cons (toArr_get _ 11 _ rfl) (fun K hK => ?_) ?_
            · go_simp
              refine (l10Num_any f3 _ m3).mono ?_
              rintro e v4 ⟨rfl, b4⟩
              have BB := b4
              have y0 := (b4.cell (p := ⟨KB, 0, none⟩) hKlt).trans y0
              have y1 := (b4.cell (p := ⟨KB, 1, none⟩) hKlt).trans y1
              have y2 := (b4.cell (p := ⟨KB, 2, none⟩) hKlt).trans y2
              have j0 := (b4.frozen (p := ⟨KB, 0, none⟩) hKlt).trans j0
              have j1 := (b4.frozen (p := ⟨KB, 1, none⟩) hKlt).trans j1
              have j2 := (b4.frozen (p := ⟨KB, 2, none⟩) hKlt).trans j2
              have hKlt := Nat.lt_of_lt_of_le hKlt b4.size
              go_wp2_with fail
              refine hK.out _ _ ?_ (fun hHeld2 => ?_)
              · (try dsimp only)
                obtain ⟨u1, u2, u3, ub⟩ := hHeld; exact ⟨(BB.cell (p := ⟨b, off + 1, none⟩) (Nat.lt_of_lt_of_le hblt ub.size)).trans u1, (BB.cell (p := ⟨b, off + 2, none⟩) (Nat.lt_of_lt_of_le hblt ub.size)).trans u2, (BB.cell (p := ⟨b, off + 3, none⟩) (Nat.lt_of_lt_of_le hblt ub.size)).trans u3, ub.trans (BB.mono ub.size)⟩
              clear hK K hHeld
              have hHeld := hHeld2
              clear hHeld2
              (try simp only [Act.put, List.setIfInBounds_toArray, List.set_cons_zero, List.set_cons_succ])
              refine wpAnyH_take (i := 12) (v := ?_) (toArr_get _ 12 _ rfl) (by kernel_rfl) (by kernel_rfl) (by kernel_rfl) (fun _ _ _ h => h) (Or.inl ⟨by rfl, ?_⟩) (by assumption) ?_
              rotate_left
              · (intro w hSw; (try dsimp only at hSw); go_simp; (try with_reducible rfl))
              (try simp only [Act.put, List.setIfInBounds_toArray, List.set_cons_zero, List.set_cons_succ])
              refine wpAnyH_ready (rs := [14]) (by kernel_rfl) (by simp) ?_
              refine AllReadyH.cons (toArr_get _ 14 _ rfl) (fun K hK => ?_) ?_
              · go_simp
                refine hK.out _ _ ?_ (fun hHeld2 => ?_)
                · (try dsimp only)
                  obtain ⟨u1, u2, u3, ub⟩ := hHeld; exact ⟨(cell3_far _ _ _ (by omega) _).trans u1, (cell3_far _ _ _ (by omega) _).trans u2, (cell3_far _ _ _ (by omega) _).trans u3, below_set3' ub hK1 _ _ _⟩
                clear hK K hHeld
                have hHeld := hHeld2
                clear hHeld2
                (try simp only [Act.put, List.setIfInBounds_toArray, List.set_cons_zero, List.set_cons_succ])
                refine wpAnyH_done (by kernel_rfl) ?_ _
                obtain ⟨-, -, -, ub⟩ := hHeld
                obtain ⟨A, hA⟩ : ∃ A, A = num2 f1 := ⟨_, rfl⟩
                obtain ⟨B, hB⟩ : ∃ B, B = num2 f2 := ⟨_, rfl⟩
                obtain ⟨C, hC⟩ : ∃ C, C = num2 f3 := ⟨_, rfl⟩
                have hT : ∀ hv : tvB A B C = true, IsT l A B C := fun hv => by rw [hA, hB, hC]; exact isT_fields HK.out (by rw [← hA, ← hB, ← hC]; exact hv)
                have hT' : ∀ hv : tvB A B C = false, ∀ c d p, ¬ IsT l c d p := fun hv => isT_not_of_tv HK.out (by rw [← hA, ← hB, ← hC]; exact hv)
                have HT := Lib.hid hT
                have HT' := Lib.hid hT'
                rw [← hA, ← hB, ← hC] at ub ⊢
                clear hA hB hC hT hT'
                go_wp2_with fail
                obtain ⟨W5, hW5⟩ : ∃ W5, W5 = ((v4.setCell ⟨KB, 0, none⟩ (.int .i64 A)).setCell ⟨KB, 1, none⟩ (.int .i64 B)).setCell ⟨KB, 2, none⟩ (.int .i64 C) := ⟨_, rfl⟩
                rw [← hW5] at ub ⊢
                have y0 : W5.cell? ⟨KB, 0, none⟩ = some (.int .i64 A) := by rw [hW5]; simp [go_sem, y0]
                have y1 : W5.cell? ⟨KB, 1, none⟩ = some (.int .i64 B) := by rw [hW5]; simp [go_sem, y1]
                have y2 : W5.cell? ⟨KB, 2, none⟩ = some (.int .i64 C) := by rw [hW5]; simp [go_sem, y2]
                have hKl : KB < W5.heap.size := by rw [hW5]; simpa [World.setCell] using hKlt
                clear hW5 j0 j1 j2 hKlt
                refine (specTaskValid_any A B C W5).mono ?_
                rintro e w6 ⟨rfl, b6⟩
                have y0 := (b6.cell (p := ⟨KB, 0, none⟩) hKl).trans y0
                have y1 := (b6.cell (p := ⟨KB, 1, none⟩) hKl).trans y1
                have y2 := (b6.cell (p := ⟨KB, 2, none⟩) hKl).trans y2
                have ub6 := ub.trans (b6.mono ub.size)
                have q0 := (ub6.cell (p := ⟨w.heap.size, 0, none⟩) hwl).trans q0
                have q1 := (ub6.cell (p := ⟨w.heap.size, 1, none⟩) hwl).trans q1
                have q2 := (ub6.cell (p := ⟨w.heap.size, 2, none⟩) hwl).trans q2
                have z0 := (ub6.frozen (p := ⟨w.heap.size, 0, none⟩) hwl).trans z0
                have z1 := (ub6.frozen (p := ⟨w.heap.size, 1, none⟩) hwl).trans z1
                have z2 := (ub6.frozen (p := ⟨w.heap.size, 2, none⟩) hwl).trans z2
                have B6 := Lib.hid (B1.out.trans (ub6.mono B1.out.size))
                have hwk : w.heap.size ≠ KB := by omega
                clear ub ub6 b6
                cases hv : tvB A B C with
                | false =>
                  have HN := Lib.hid (HT'.out hv)
                  go_wp2
                  refine bodyPost_ret (v := .tuple #[.agg #[.int .i64 0, .int .i64 0, .int .i64 0], .bool false]) ?_ rfl (got_not HN.out (below_set3 B6.out _ _ _))
                  simp [results, Tryz.results29, go_sem, q0, q1, q2]
                | true =>
                  have HN := Lib.hid (HT.out hv)
                  go_wp2
                  refine bodyPost_ret (v := .tuple #[.agg #[.int .i64 A, .int .i64 B, .int .i64 C], .bool true]) ?_ rfl ⟨⟨A, B, C, true, rfl, .inl ⟨rfl, HN.out⟩⟩, below_set3 B6.out _ _ _⟩
                  simp [results, Tryz.results29, go_sem, q0, q1, q2]
              exact AllReadyH.nil
            exact AllReadyH.nil
          exact AllReadyH.nil
        refine AllReadyH.cons (toArr_get _ 13 _ rfl) (fun K hK => ?_) ?_
        · go_simp
          obtain ⟨v2, hv⟩ : ∃ V, V = v1.alloc (.cells #[.int .i64 0, .int .i64 0, .int .i64 0] 29) := ⟨_, rfl⟩
          rw [← hv]
          have b2 : Below v1.heap.size v1 v2 := by rw [hv]; exact below_box _ _
          have BB := b2
          obtain ⟨KB, hKe⟩ : ∃ K, K = v1.heap.size := ⟨_, rfl⟩
          rw [← hKe]
          have hKlt : KB < v2.heap.size := by rw [hv, hKe]; simp
          have hK1 : w1.heap.size ≤ KB := by rw [hKe]; exact hHeld.2.2.2.size
          have y0 : v2.cell? ⟨KB, 0, none⟩ = some (.int .i64 0) := by rw [hv, hKe]; simp [go_sem]
          have y1 : v2.cell? ⟨KB, 1, none⟩ = some (.int .i64 0) := by rw [hv, hKe]; simp [go_sem]
          have y2 : v2.cell? ⟨KB, 2, none⟩ = some (.int .i64 0) := by rw [hv, hKe]; simp [go_sem]
          have j0 : v2.frozen? ⟨KB, 0, none⟩ = false := by rw [hv, hKe]; simp [go_sem]
          have j1 : v2.frozen? ⟨KB, 1, none⟩ = false := by rw [hv, hKe]; simp [go_sem]
          have j2 : v2.frozen? ⟨KB, 2, none⟩ = false := by rw [hv, hKe]; simp [go_sem]
          clear hv hKe
          refine hK.out _ _ ?_ (fun hHeld2 => ?_)
          · (try dsimp only)
            obtain ⟨u1, u2, u3, ub⟩ := hHeld; exact ⟨(BB.cell (p := ⟨b, off + 1, none⟩) (Nat.lt_of_lt_of_le hblt ub.size)).trans u1, (BB.cell (p := ⟨b, off + 2, none⟩) (Nat.lt_of_lt_of_le hblt ub.size)).trans u2, (BB.cell (p := ⟨b, off + 3, none⟩) (Nat.lt_of_lt_of_le hblt ub.size)).trans u3, ub.trans (BB.mono ub.size)⟩
          clear hK K hHeld
          have hHeld := hHeld2
          clear hHeld2
          (try simp only [Act.put, List.setIfInBounds_toArray, List.set_cons_zero, List.set_cons_succ])
          refine wpAnyH_ready (rs := [7]) (by kernel_rfl) (by simp) ?_
          refine AllReadyH.cons (toArr_get _ 7 _ rfl) (fun K hK => ?_) ?_
          · go_simp
            refine (l10Num_any f2 _ m2).mono ?_
            rintro e v3 ⟨rfl, b3⟩
            have BB := b3
            have y0 := (b3.cell (p := ⟨KB, 0, none⟩) hKlt).trans y0
            have y1 := (b3.cell (p := ⟨KB, 1, none⟩) hKlt).trans y1
            have y2 := (b3.cell (p := ⟨KB, 2, none⟩) hKlt).trans y2
            have j0 := (b3.frozen (p := ⟨KB, 0, none⟩) hKlt).trans j0
            have j1 := (b3.frozen (p := ⟨KB, 1, none⟩) hKlt).trans j1
            have j2 := (b3.frozen (p := ⟨KB, 2, none⟩) hKlt).trans j2
            have hKlt := Nat.lt_of_lt_of_le hKlt b3.size
            go_wp2_with fail
            refine hK.out _ _ ?_ (fun hHeld2 => ?_)
            · (try dsimp only)
              obtain ⟨u1, u2, u3, ub⟩ := hHeld; exact ⟨(BB.cell (p := ⟨b, off + 1, none⟩) (Nat.lt_of_lt_of_le hblt ub.size)).trans u1, (BB.cell (p := ⟨b, off + 2, none⟩) (Nat.lt_of_lt_of_le hblt ub.size)).trans u2, (BB.cell (p := ⟨b, off + 3, none⟩) (Nat.lt_of_lt_of_le hblt ub.size)).trans u3, ub.trans (BB.mono ub.size)⟩
            clear hK K hHeld
            have hHeld := hHeld2
            clear hHeld2
            (try simp only [Act.put, List.setIfInBounds_toArray, List.set_cons_zero, List.set_cons_succ])
            refine wpAnyH_ready (rs := [11]) (by kernel_rfl) (by simp) ?_
            refine AllReadyH.cons (toArr_get _ 11 _ rfl) (fun K hK => ?_) ?_
            · go_simp
              refine (l10Num_any f3 _ m3).mono ?_
              rintro e v4 ⟨rfl, b4⟩
              have BB := b4
              have y0 := (b4.cell (p := ⟨KB, 0, none⟩) hKlt).trans y0
              have y1 := (b4.cell (p := ⟨KB, 1, none⟩) hKlt).trans y1
              have y2 := (b4.cell (p := ⟨KB, 2, none⟩) hKlt).trans y2
              have j0 := (b4.frozen (p := ⟨KB, 0, none⟩) hKlt).trans j0
              have j1 := (b4.frozen (p := ⟨KB, 1, none⟩) hKlt).trans j1
              have j2 := (b4.frozen (p := ⟨KB, 2, none⟩) hKlt).trans j2
              have hKlt := Nat.lt_of_lt_of_le hKlt b4.size
              go_wp2_with fail
              refine hK.out _ _ ?_ (fun hHeld2 => ?_)
              · (try dsimp only)
                obtain ⟨u1, u2, u3, ub⟩ := hHeld; exact ⟨(BB.cell (p := ⟨b, off + 1, none⟩) (Nat.lt_of_lt_of_le hblt ub.size)).trans u1, (BB.cell (p := ⟨b, off + 2, none⟩) (Nat.lt_of_lt_of_le hblt ub.size)).trans u2, (BB.cell (p := ⟨b, off + 3, none⟩) (Nat.lt_of_lt_of_le hblt ub.size)).trans u3, ub.trans (BB.mono ub.size)⟩
              clear hK K hHeld
              have hHeld := hHeld2
              clear hHeld2
              (try simp only [Act.put, List.setIfInBounds_toArray, List.set_cons_zero, List.set_cons_succ])
              refine wpAnyH_take (i := 12) (v := ?_) (toArr_get _ 12 _ rfl) (by kernel_rfl) (by kernel_rfl) (by kernel_rfl) (fun _ _ _ h => h) (Or.inl ⟨by rfl, ?_⟩) (by assumption) ?_
              rotate_left
              · (intro w hSw; (try dsimp only at hSw); go_simp; (try with_reducible rfl))
              (try simp only [Act.put, List.setIfInBounds_toArray, List.set_cons_zero, List.set_cons_succ])
              refine wpAnyH_ready (rs := [14]) (by kernel_rfl) (by simp) ?_
              refine AllReadyH.cons (toArr_get _ 14 _ rfl) (fun K hK => ?_) ?_
              · go_simp
                refine hK.out _ _ ?_ (fun hHeld2 => ?_)
                · (try dsimp only)
                  obtain ⟨u1, u2, u3, ub⟩ := hHeld; exact ⟨(cell3_far _ _ _ (by omega) _).trans u1, (cell3_far _ _ _ (by omega) _).trans u2, (cell3_far _ _ _ (by omega) _).trans u3, below_set3' ub hK1 _ _ _⟩
                clear hK K hHeld
                have hHeld := hHeld2
                clear hHeld2
                (try simp only [Act.put, List.setIfInBounds_toArray, List.set_cons_zero, List.set_cons_succ])
                refine wpAnyH_done (by kernel_rfl) ?_ _
                obtain ⟨-, -, -, ub⟩ := hHeld
                obtain ⟨A, hA⟩ : ∃ A, A = num2 f1 := ⟨_, rfl⟩
                obtain ⟨B, hB⟩ : ∃ B, B = num2 f2 := ⟨_, rfl⟩
                obtain ⟨C, hC⟩ : ∃ C, C = num2 f3 := ⟨_, rfl⟩
                have hT : ∀ hv : tvB A B C = true, IsT l A B C := fun hv => by rw [hA, hB, hC]; exact isT_fields HK.out (by rw [← hA, ← hB, ← hC]; exact hv)
                have hT' : ∀ hv : tvB A B C = false, ∀ c d p, ¬ IsT l c d p := fun hv => isT_not_of_tv HK.out (by rw [← hA, ← hB, ← hC]; exact hv)
                have HT := Lib.hid hT
                have HT' := Lib.hid hT'
                rw [← hA, ← hB, ← hC] at ub ⊢
                clear hA hB hC hT hT'
                go_wp2_with fail
                obtain ⟨W5, hW5⟩ : ∃ W5, W5 = ((v4.setCell ⟨KB, 0, none⟩ (.int .i64 A)).setCell ⟨KB, 1, none⟩ (.int .i64 B)).setCell ⟨KB, 2, none⟩ (.int .i64 C) := ⟨_, rfl⟩
                rw [← hW5] at ub ⊢
                have y0 : W5.cell? ⟨KB, 0, none⟩ = some (.int .i64 A) := by rw [hW5]; simp [go_sem, y0]
                have y1 : W5.cell? ⟨KB, 1, none⟩ = some (.int .i64 B) := by rw [hW5]; simp [go_sem, y1]
                have y2 : W5.cell? ⟨KB, 2, none⟩ = some (.int .i64 C) := by rw [hW5]; simp [go_sem, y2]
                have hKl : KB < W5.heap.size := by rw [hW5]; simpa [World.setCell] using hKlt
                clear hW5 j0 j1 j2 hKlt
                refine (specTaskValid_any A B C W5).mono ?_
                rintro e w6 ⟨rfl, b6⟩
                have y0 := (b6.cell (p := ⟨KB, 0, none⟩) hKl).trans y0
                have y1 := (b6.cell (p := ⟨KB, 1, none⟩) hKl).trans y1
                have y2 := (b6.cell (p := ⟨KB, 2, none⟩) hKl).trans y2
                have ub6 := ub.trans (b6.mono ub.size)
                have q0 := (ub6.cell (p := ⟨w.heap.size, 0, none⟩) hwl).trans q0
                have q1 := (ub6.cell (p := ⟨w.heap.size, 1, none⟩) hwl).trans q1
                have q2 := (ub6.cell (p := ⟨w.heap.size, 2, none⟩) hwl).trans q2
                have z0 := (ub6.frozen (p := ⟨w.heap.size, 0, none⟩) hwl).trans z0
                have z1 := (ub6.frozen (p := ⟨w.heap.size, 1, none⟩) hwl).trans z1
                have z2 := (ub6.frozen (p := ⟨w.heap.size, 2, none⟩) hwl).trans z2
                have B6 := Lib.hid (B1.out.trans (ub6.mono B1.out.size))
                have hwk : w.heap.size ≠ KB := by omega
                clear ub ub6 b6
                cases hv : tvB A B C with
                | false =>
                  have HN := Lib.hid (HT'.out hv)
                  go_wp2
                  refine bodyPost_ret (v := .tuple #[.agg #[.int .i64 0, .int .i64 0, .int .i64 0], .bool false]) ?_ rfl (got_not HN.out (below_set3 B6.out _ _ _))
                  simp [results, Tryz.results29, go_sem, q0, q1, q2]
                | true =>
                  have HN := Lib.hid (HT.out hv)
                  go_wp2
                  refine bodyPost_ret (v := .tuple #[.agg #[.int .i64 A, .int .i64 B, .int .i64 C], .bool true]) ?_ rfl ⟨⟨A, B, C, true, rfl, .inl ⟨rfl, HN.out⟩⟩, below_set3 B6.out _ _ _⟩
                  simp [results, Tryz.results29, go_sem, q0, q1, q2]
              exact AllReadyH.nil
            exact AllReadyH.nil
          exact AllReadyH.nil
        exact AllReadyH.nil
      refine AllReadyH.cons (toArr_get _ 13 _ rfl) (fun K hK => ?_) ?_
      · go_simp
        obtain ⟨v1, hv⟩ : ∃ V, V = v0.alloc (.cells #[.int .i64 0, .int .i64 0, .int .i64 0] 29) := ⟨_, rfl⟩
        rw [← hv]
        have b1 : Below v0.heap.size v0 v1 := by rw [hv]; exact below_box _ _
        have BB := b1
        obtain ⟨KB, hKe⟩ : ∃ K, K = v0.heap.size := ⟨_, rfl⟩
        rw [← hKe]
        have hKlt : KB < v1.heap.size := by rw [hv, hKe]; simp
        have hK1 : w1.heap.size ≤ KB := by rw [hKe]; exact hHeld.2.2.2.size
        have y0 : v1.cell? ⟨KB, 0, none⟩ = some (.int .i64 0) := by rw [hv, hKe]; simp [go_sem]
        have y1 : v1.cell? ⟨KB, 1, none⟩ = some (.int .i64 0) := by rw [hv, hKe]; simp [go_sem]
        have y2 : v1.cell? ⟨KB, 2, none⟩ = some (.int .i64 0) := by rw [hv, hKe]; simp [go_sem]
        have j0 : v1.frozen? ⟨KB, 0, none⟩ = false := by rw [hv, hKe]; simp [go_sem]
        have j1 : v1.frozen? ⟨KB, 1, none⟩ = false := by rw [hv, hKe]; simp [go_sem]
        have j2 : v1.frozen? ⟨KB, 2, none⟩ = false := by rw [hv, hKe]; simp [go_sem]
        clear hv hKe
        refine hK.out _ _ ?_ (fun hHeld2 => ?_)
        · (try dsimp only)
          obtain ⟨u1, u2, u3, ub⟩ := hHeld; exact ⟨(BB.cell (p := ⟨b, off + 1, none⟩) (Nat.lt_of_lt_of_le hblt ub.size)).trans u1, (BB.cell (p := ⟨b, off + 2, none⟩) (Nat.lt_of_lt_of_le hblt ub.size)).trans u2, (BB.cell (p := ⟨b, off + 3, none⟩) (Nat.lt_of_lt_of_le hblt ub.size)).trans u3, ub.trans (BB.mono ub.size)⟩
        clear hK K hHeld
        have hHeld := hHeld2
        clear hHeld2
        (try simp only [Act.put, List.setIfInBounds_toArray, List.set_cons_zero, List.set_cons_succ])
        refine wpAnyH_ready (rs := [3]) (by kernel_rfl) (by simp) ?_
        refine AllReadyH.cons (toArr_get _ 3 _ rfl) (fun K hK => ?_) ?_
        · go_simp
          refine (l10Num_any f1 _ m1).mono ?_
          rintro e v2 ⟨rfl, b2⟩
          have BB := b2
          have y0 := (b2.cell (p := ⟨KB, 0, none⟩) hKlt).trans y0
          have y1 := (b2.cell (p := ⟨KB, 1, none⟩) hKlt).trans y1
          have y2 := (b2.cell (p := ⟨KB, 2, none⟩) hKlt).trans y2
          have j0 := (b2.frozen (p := ⟨KB, 0, none⟩) hKlt).trans j0
          have j1 := (b2.frozen (p := ⟨KB, 1, none⟩) hKlt).trans j1
          have j2 := (b2.frozen (p := ⟨KB, 2, none⟩) hKlt).trans j2
          have hKlt := Nat.lt_of_lt_of_le hKlt b2.size
          go_wp2_with fail
          refine hK.out _ _ ?_ (fun hHeld2 => ?_)
          · (try dsimp only)
            obtain ⟨u1, u2, u3, ub⟩ := hHeld; exact ⟨(BB.cell (p := ⟨b, off + 1, none⟩) (Nat.lt_of_lt_of_le hblt ub.size)).trans u1, (BB.cell (p := ⟨b, off + 2, none⟩) (Nat.lt_of_lt_of_le hblt ub.size)).trans u2, (BB.cell (p := ⟨b, off + 3, none⟩) (Nat.lt_of_lt_of_le hblt ub.size)).trans u3, ub.trans (BB.mono ub.size)⟩
          clear hK K hHeld
          have hHeld := hHeld2
          clear hHeld2
          (try simp only [Act.put, List.setIfInBounds_toArray, List.set_cons_zero, List.set_cons_succ])
          refine wpAnyH_ready (rs := [7]) (by kernel_rfl) (by simp) ?_
          refine AllReadyH.cons (toArr_get _ 7 _ rfl) (fun K hK => ?_) ?_
          · go_simp
            refine (l10Num_any f2 _ m2).mono ?_
            rintro e v3 ⟨rfl, b3⟩
            have BB := b3
            have y0 := (b3.cell (p := ⟨KB, 0, none⟩) hKlt).trans y0
            have y1 := (b3.cell (p := ⟨KB, 1, none⟩) hKlt).trans y1
            have y2 := (b3.cell (p := ⟨KB, 2, none⟩) hKlt).trans y2
            have j0 := (b3.frozen (p := ⟨KB, 0, none⟩) hKlt).trans j0
            have j1 := (b3.frozen (p := ⟨KB, 1, none⟩) hKlt).trans j1
            have j2 := (b3.frozen (p := ⟨KB, 2, none⟩) hKlt).trans j2
            have hKlt := Nat.lt_of_lt_of_le hKlt b3.size
            go_wp2_with fail
            refine hK.out _ _ ?_ (fun hHeld2 => ?_)
            · (try dsimp only)
              obtain ⟨u1, u2, u3, ub⟩ := hHeld; exact ⟨(BB.cell (p := ⟨b, off + 1, none⟩) (Nat.lt_of_lt_of_le hblt ub.size)).trans u1, (BB.cell (p := ⟨b, off + 2, none⟩) (Nat.lt_of_lt_of_le hblt ub.size)).trans u2, (BB.cell (p := ⟨b, off + 3, none⟩) (Nat.lt_of_lt_of_le hblt ub.size)).trans u3, ub.trans (BB.mono ub.size)⟩
            clear hK K hHeld
            have hHeld := hHeld2
            clear hHeld2
            (try simp only [Act.put, List.setIfInBounds_toArray, List.set_cons_zero, List.set_cons_succ])
            refine wpAnyH_ready (rs := [11]) (by kernel_rfl) (by simp) ?_
            refine AllReadyH.cons (toArr_get _ 11 _ rfl) (fun K hK => ?_) ?_
            · go_simp
              refine (l10Num_any f3 _ m3).mono ?_
              rintro e v4 ⟨rfl, b4⟩
              have BB := b4
              have y0 := (b4.cell (p := ⟨KB, 0, none⟩) hKlt).trans y0
              have y1 := (b4.cell (p := ⟨KB, 1, none⟩) hKlt).trans y1
              have y2 := (b4.cell (p := ⟨KB, 2, none⟩) hKlt).trans y2
              have j0 := (b4.frozen (p := ⟨KB, 0, none⟩) hKlt).trans j0
              have j1 := (b4.frozen (p := ⟨KB, 1, none⟩) hKlt).trans j1
              have j2 := (b4.frozen (p := ⟨KB, 2, none⟩) hKlt).trans j2
              have hKlt := Nat.lt_of_lt_of_le hKlt b4.size
              go_wp2_with fail
              refine hK.out _ _ ?_ (fun hHeld2 => ?_)
              · (try dsimp only)
                obtain ⟨u1, u2, u3, ub⟩ := hHeld; exact ⟨(BB.cell (p := ⟨b, off + 1, none⟩) (Nat.lt_of_lt_of_le hblt ub.size)).trans u1, (BB.cell (p := ⟨b, off + 2, none⟩) (Nat.lt_of_lt_of_le hblt ub.size)).trans u2, (BB.cell (p := ⟨b, off + 3, none⟩) (Nat.lt_of_lt_of_le hblt ub.size)).trans u3, ub.trans (BB.mono ub.size)⟩
              clear hK K hHeld
              have hHeld := hHeld2
              clear hHeld2
              (try simp only [Act.put, List.setIfInBounds_toArray, List.set_cons_zero, List.set_cons_succ])
              refine wpAnyH_take (i := 12) (v := ?_) (toArr_get _ 12 _ rfl) (by kernel_rfl) (by kernel_rfl) (by kernel_rfl) (fun _ _ _ h => h) (Or.inl ⟨by rfl, ?_⟩) (by assumption) ?_
              rotate_left
              · (intro w hSw; (try dsimp only at hSw); go_simp; (try with_reducible rfl))
              (try simp only [Act.put, List.setIfInBounds_toArray, List.set_cons_zero, List.set_cons_succ])
              refine wpAnyH_ready (rs := [14]) (by kernel_rfl) (by simp) ?_
              refine AllReadyH.cons (toArr_get _ 14 _ rfl) (fun K hK => ?_) ?_
              · go_simp
                refine hK.out _ _ ?_ (fun hHeld2 => ?_)
                · (try dsimp only)
                  obtain ⟨u1, u2, u3, ub⟩ := hHeld; exact ⟨(cell3_far _ _ _ (by omega) _).trans u1, (cell3_far _ _ _ (by omega) _).trans u2, (cell3_far _ _ _ (by omega) _).trans u3, below_set3' ub hK1 _ _ _⟩
                clear hK K hHeld
                have hHeld := hHeld2
                clear hHeld2
                (try simp only [Act.put, List.setIfInBounds_toArray, List.set_cons_zero, List.set_cons_succ])
                refine wpAnyH_done (by kernel_rfl) ?_ _
                obtain ⟨-, -, -, ub⟩ := hHeld
                obtain ⟨A, hA⟩ : ∃ A, A = num2 f1 := ⟨_, rfl⟩
                obtain ⟨B, hB⟩ : ∃ B, B = num2 f2 := ⟨_, rfl⟩
                obtain ⟨C, hC⟩ : ∃ C, C = num2 f3 := ⟨_, rfl⟩
                have hT : ∀ hv : tvB A B C = true, IsT l A B C := fun hv => by rw [hA, hB, hC]; exact isT_fields HK.out (by rw [← hA, ← hB, ← hC]; exact hv)
                have hT' : ∀ hv : tvB A B C = false, ∀ c d p, ¬ IsT l c d p := fun hv => isT_not_of_tv HK.out (by rw [← hA, ← hB, ← hC]; exact hv)
                have HT := Lib.hid hT
                have HT' := Lib.hid hT'
                rw [← hA, ← hB, ← hC] at ub ⊢
                clear hA hB hC hT hT'
                go_wp2_with fail
                obtain ⟨W5, hW5⟩ : ∃ W5, W5 = ((v4.setCell ⟨KB, 0, none⟩ (.int .i64 A)).setCell ⟨KB, 1, none⟩ (.int .i64 B)).setCell ⟨KB, 2, none⟩ (.int .i64 C) := ⟨_, rfl⟩
                rw [← hW5] at ub ⊢
                have y0 : W5.cell? ⟨KB, 0, none⟩ = some (.int .i64 A) := by rw [hW5]; simp [go_sem, y0]
                have y1 : W5.cell? ⟨KB, 1, none⟩ = some (.int .i64 B) := by rw [hW5]; simp [go_sem, y1]
                have y2 : W5.cell? ⟨KB, 2, none⟩ = some (.int .i64 C) := by rw [hW5]; simp [go_sem, y2]
                have hKl : KB < W5.heap.size := by rw [hW5]; simpa [World.setCell] using hKlt
                clear hW5 j0 j1 j2 hKlt
                refine (specTaskValid_any A B C W5).mono ?_
                rintro e w6 ⟨rfl, b6⟩
                have y0 := (b6.cell (p := ⟨KB, 0, none⟩) hKl).trans y0
                have y1 := (b6.cell (p := ⟨KB, 1, none⟩) hKl).trans y1
                have y2 := (b6.cell (p := ⟨KB, 2, none⟩) hKl).trans y2
                have ub6 := ub.trans (b6.mono ub.size)
                have q0 := (ub6.cell (p := ⟨w.heap.size, 0, none⟩) hwl).trans q0
                have q1 := (ub6.cell (p := ⟨w.heap.size, 1, none⟩) hwl).trans q1
                have q2 := (ub6.cell (p := ⟨w.heap.size, 2, none⟩) hwl).trans q2
                have z0 := (ub6.frozen (p := ⟨w.heap.size, 0, none⟩) hwl).trans z0
                have z1 := (ub6.frozen (p := ⟨w.heap.size, 1, none⟩) hwl).trans z1
                have z2 := (ub6.frozen (p := ⟨w.heap.size, 2, none⟩) hwl).trans z2
                have B6 := Lib.hid (B1.out.trans (ub6.mono B1.out.size))
                have hwk : w.heap.size ≠ KB := by omega
                clear ub ub6 b6
                cases hv : tvB A B C with
                | false =>
                  have HN := Lib.hid (HT'.out hv)
                  go_wp2
                  refine bodyPost_ret (v := .tuple #[.agg #[.int .i64 0, .int .i64 0, .int .i64 0], .bool false]) ?_ rfl (got_not HN.out (below_set3 B6.out _ _ _))
                  simp [results, Tryz.results29, go_sem, q0, q1, q2]
                | true =>
                  have HN := Lib.hid (HT.out hv)
                  go_wp2
                  refine bodyPost_ret (v := .tuple #[.agg #[.int .i64 A, .int .i64 B, .int .i64 C], .bool true]) ?_ rfl ⟨⟨A, B, C, true, rfl, .inl ⟨rfl, HN.out⟩⟩, below_set3 B6.out _ _ _⟩
                  simp [results, Tryz.results29, go_sem, q0, q1, q2]
              exact AllReadyH.nil
            exact AllReadyH.nil
          exact AllReadyH.nil
        exact AllReadyH.nil
      exact AllReadyH.nil
    · have hkb : ((bs f0).toList == [116, 97, 115, 107]) = false := by rw [beq_eq_false_iff_ne, bs_toList]; exact hk
      have HN := Lib.hid (isT_not_of_fields (l := l) (fun a b e h => hk (by have := HFL.out.symm.trans h; simp only [List.cons.injEq] at this; exact this.1)))
      clear hk
      go_wp2
      refine bodyPost_ret (v := .tuple #[.agg #[.int .i64 0, .int .i64 0, .int .i64 0], .bool false]) ?_ rfl (got_not HN.out (below_set3 B1.out _ _ _))
      simp [results, Tryz.results29, go_sem, q0, q1, q2]
  · have h4' : ((((fall l).length : Nat) : Int) != 4) = true := by rw [bne_iff_ne]; omega
    have HN := Lib.hid (isT_not_of_fields (l := l) (fun a b e h => h4 (by rw [h]; rfl)))
    clear h4
    go_wp2
    refine bodyPost_ret (v := .tuple #[.agg #[.int .i64 0, .int .i64 0, .int .i64 0], .bool false]) ?_ rfl (got_not HN.out (below_set3 B1.out _ _ _))
    simp [results, Tryz.results29, go_sem, q0, q1, q2]

set_option maxRecDepth 100000 in
set_option maxHeartbeats 1000000 in
/-- spec.l10Times. -/
theorem l10Times_any (a : Option Addr) (n cap : Nat) (f : Nat → Int) (w : World) (hf : IntF w a n f) (hn : n ≤ 1048576) (hb : ∀ k, k < n → f k < 10000) :
    Calls Tryz.prog 33 #[.slice a n cap] w fun e w' => e = .returned (.string (bs (tmsL f n))) ∧ Below w.heap.size w w' := by
  have HF := Lib.hid hf
  have HL := Lib.hid (fun k (hk : k ≤ n) => tmsL_len f k (fun j hj => hb j (by omega)))
  have HBD := Lib.hid hb
  clear hf hb
  go_enter Tryz.func33, Tryz.ntmps33
  go_wp2
  go_loopg [3, 4] n (fun q vo vi wr => ∃ i : Nat, q + i = n ∧ vi = .int .i64 (i : Int) ∧ vo = .string (bs (tmsL f i)) ∧ Below w.heap.size w wr)
  case atStart => exact ⟨0, by simp, rfl, rfl, Below.refl _ _⟩
  case round =>
    obtain ⟨i, hq, rfl, rfl, B⟩ := hrel
    have HQ := Lib.hid hq
    have HB := Lib.hid B
    have hil : i ≤ n := by omega
    obtain ⟨o, ho⟩ : ∃ o, o = tmsL f i := ⟨_, rfl⟩
    have hol : o.length ≤ 5 * i := by rw [ho]; exact HL.out i hil
    have HO := Lib.hid ho
    rw [← ho]
    clear hq B ho
    by_cases hi : i < n
    · have hi0 : (0 : Int) ≤ i := by omega
      have hi1 : (i : Int) < n := by omega
      obtain ⟨b, off, rfl, hblt, k0⟩ := (HF.out.below HB.out) i hi
      obtain ⟨x, hx⟩ : ∃ x, x = f i := ⟨_, rfl⟩
      have hxb := HBD.out i hi
      rw [← hx] at k0 hxb
      have HS := Lib.hid (show tmsL f (i + 1) = o ++ tmL x by rw [HO.out, hx]; rfl)
      clear hx
      by_cases hneg : x < 0
      · have hadd := fun w => run_add_bs (P := Tryz.prog) w o [32, 108, 97, 116, 101] (by simp; omega)
        have hadd' : ∀ w : World, (Op.stringOp .add (bs o) ⟨#[32, 108, 97, 116, 101]⟩).run Tryz.prog w = .ok (.string (bs (o ++ lateW))) w := hadd
        have hst := HS.out
        rw [tmL, if_pos hneg] at hst
        have HS2 := Lib.hid hst
        clear hadd hst
        go_wp2
        go_roundg (gk - 1)
        case measure => have := HQ.out; omega
        case rel => exact ⟨i + 1, by have := HQ.out; omega, by go_num, by rw [HS2.out], HB.out⟩
      · obtain ⟨y, rfl⟩ : ∃ y : Nat, x = (y : Int) := ⟨x.toNat, by omega⟩
        have hadd' : ∀ w : World, (Op.stringOp .add (bs o) ⟨#[32]⟩).run Tryz.prog w = .ok (.string (bs (o ++ [32]))) w := fun w => run_add_bs w o [32] (by simp; omega)
        have hdl := dec_len_big 3 y (by omega)
        obtain ⟨D, hD⟩ : ∃ D, D = Lib.decDigits y := ⟨_, rfl⟩
        rw [← hD] at hdl
        obtain ⟨O2, hO2⟩ : ∃ O2, O2 = o ++ [32] := ⟨_, rfl⟩
        rw [← hO2] at hadd'
        have hadd2 : ∀ w : World, (Op.stringOp .add (bs O2) (bs D)).run Tryz.prog w = .ok (.string (bs (O2 ++ D))) w := fun w => run_add_bs w O2 D (by rw [hO2]; simp; omega)
        have hst := HS.out
        rw [tmL, if_neg hneg, Int.toNat_natCast, ← hD, ← List.append_assoc, ← hO2] at hst
        have HS2 := Lib.hid hst
        have HD := Lib.hid hD
        clear hst hO2 hD
        go_wp2_with fail
        refine (l10Plain_any y _ (by omega)).mono ?_
        rintro e w2 ⟨rfl, b2⟩
        rw [← HD.out]
        have B2 := Lib.hid (HB.out.trans (b2.mono HB.out.size))
        clear b2
        go_wp2
        go_roundg (gk - 1)
        case measure => have := HQ.out; omega
        case rel => exact ⟨i + 1, by have := HQ.out; omega, by go_num, by rw [HS2.out], B2.out⟩
    · obtain rfl : i = n := by omega
      go_wp2
      go_ret
      exact ⟨ret_str HO.out, HB.out⟩

end Go.Proofs.YtdgihkmiolnglaaGreatDoor
