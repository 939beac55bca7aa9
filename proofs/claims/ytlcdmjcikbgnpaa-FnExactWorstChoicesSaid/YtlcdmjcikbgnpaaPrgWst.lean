/- Contracts of the reference's l8Worst and WorstChoices. Conditions: the slices hold what is said; what each theorem names. -/
import Derived.Test.YtlcdmjcikbgnpaaPrgRun
import Derived.OrdersHeld
import Derived.Deep.RegionHeld
import Derived.Laws.AppendOwn
namespace Go.Proofs.Ytlcdmjcikbgnpaa
open Go.RowKit Go.Deep

/-- A list of ints of the call's own. -/
def OwnC (w : World) (base : Nat) (v : Value) (cs : List Int) : Prop := OwnI w base v cs.length (fun k => cs.getD k 0) ∧ v ≠ .slice none 0 0
theorem vals_app (cs ds : List Int) : vals (fun k => cs.getD k 0) cs.length ++ vals (fun k => ds.getD k 0) ds.length = vals (fun k => (cs ++ ds).getD k 0) (cs ++ ds).length := by
  have key : ∀ l : List Int, vals (fun k => l.getD k 0) l.length = l.map fun c => .int .i64 c := fun l => by
    simp only [vals]
    apply List.ext_getElem
    · simp
    · intro n h1 h2
      simp only [List.length_map, List.length_range] at h1
      simp [List.getD_eq_getElem?_getD, h1]
  rw [key, key, key, List.map_append]
theorem OwnC.at {w : World} {base : Nat} {v : Value} {cs : List Int} (h : OwnC w base v cs) : ∃ g cap, v = .slice (some ⟨g, 0, none⟩) cs.length cap ∧ base ≤ g ∧ g < w.heap.size ∧ ∀ j u, (vals (fun k => cs.getD k 0) cs.length)[j]? = some u → w.cell? ((⟨g, 0, none⟩ : Addr).add j) = some u := by
  obtain ⟨h1, h2⟩ := h
  have h5 := h1
  obtain ⟨_, ⟨e, hn⟩ | ⟨g, cap, cur, e, _⟩⟩ := h5
  · exact absurd e h2
  · subst e
    exact ⟨g, cap, rfl, (h1.lt g rfl).1, (h1.lt g rfl).2, World.ownsRow.cells h1 rfl⟩
theorem OwnC.ch {w : World} {base : Nat} {v : Value} {cs : List Int} (h : OwnC w base v cs) : ChF w v cs := by
  obtain ⟨a, cap, e, hi, hc, _⟩ := h.1.intF
  exact ⟨a, cap, e, hc, hi⟩
theorem OwnC.below {w w' : World} {base : Nat} {v : Value} {cs : List Int} (h : OwnC w base v cs) (hb : Below w.heap.size w w') : OwnC w' base v cs := ⟨h.1.below hb, h.2⟩
theorem OwnC.mono {w : World} {base base' : Nat} {v : Value} {cs : List Int} (h : OwnC w base v cs) (hb : base' ≤ base) : OwnC w base' v cs := ⟨h.1.mono hb, h.2⟩
theorem OwnC.app {w' : World} {base : Nat} {v v' : Value} {cs ds : List Int} (ho : w'.ownsRow base 3 1 v' (cs.length + ds.length) (vals (fun k => cs.getD k 0) cs.length ++ vals (fun k => ds.getD k 0) ds.length)) (hnil : v' = .slice none 0 0 ↔ v = .slice none 0 0 ∧ ds.length = 0) (hv : v ≠ .slice none 0 0) : OwnC w' base v' (cs ++ ds) := by
  refine ⟨?_, fun e => hv (hnil.1 e).1⟩
  unfold OwnI
  rw [← vals_app, List.length_append]
  exact ho
theorem OwnC.empty (w : World) : OwnC (w.alloc (.cells #[] 3)) w.heap.size (.slice (some ⟨w.heap.size, 0, none⟩) 0 0) [] := ⟨OwnI.empty w _, by simp⟩
theorem OwnC.one (w : World) (c : Int) : OwnC (w.alloc (.cells #[.int .i64 c] 3)) w.heap.size (.slice (some ⟨w.heap.size, 0, none⟩) 1 1) [c] :=
  ⟨⟨rfl, .inr ⟨w.heap.size, 1, _, rfl, Nat.le_refl _, blk_alloc_new _ _, Nat.le_refl _, by simp [maxLen], rfl, rfl⟩⟩, by simp⟩
theorem vals_one (n : Nat) (f : Nat → Int) : ∀ u ∈ vals f n, u.oneCell' = true := by
  intro u hu
  simp only [vals, List.mem_map] at hu
  obtain ⟨k, -, rfl⟩ := hu
  rfl

set_option maxRecDepth 100000 in
set_option maxHeartbeats 4000000 in
/-- spec.l8Worst. -/
theorem l8Worst_any (a : Option Addr) (cap : Nat) (ca : Option Addr) (cc : Nat) (ps : List N5) (hv : PV ps) (_hn : ps.length ≤ 1000) : ∀ (i : Nat), i < ps.length → wc8 true ps i ≤ 600 → ∀ (w : World), RowN w a ps → IntF w ca ps.length (fun j => (cp8 true ps j : Nat)) →
    Calls Try.prog 50 #[.slice a ps.length cap, .slice ca ps.length cc, .int .i64 (i : Int)] w fun e w' => ∃ v', e = .returned v' ∧ OwnC w' w.heap.size v' (ws8 ps i) ∧ Below w.heap.size w w' := by
  intro i
  induction i using Nat.strongRecOn with
  | _ i ih =>
    intro hi hw6 w hr hc
    have IH := Lib.hid ih
    have HR := Lib.hid hr
    have HC := Lib.hid hc
    have hi0 : (0 : Int) ≤ i := by omega
    have hi1 : (i : Int) < ps.length := by omega
    clear hr hc ih
    obtain ⟨i0, xi, xz, xsz, xby⟩ := info_parts intInfo
    have HI := Lib.hid (And.intro xi (And.intro xz (And.intro xsz xby)))
    clear xi xz xsz xby
    cases nv_of (hv i hi) with
    | block c h h1 h9 =>
      obtain ⟨b, off, rfl, hb, n0, n1, n2, n3, n4⟩ := rowN_at HR.out hi h
      have HE := Lib.hid (ws8_block h)
      have HV := Lib.hid hv
      clear h hv hw6
      go_enter Try.func50, Try.ntmps50
      go_wp2
      go_ret
      rw [HE.out]
      obtain ⟨W0, hW0⟩ : ∃ W0, W0 = w.alloc (.cells #[.int .i64 1, .int .i64 c, .int .i64 0, .int .i64 0, .int .i64 0] 28) := ⟨_, rfl⟩
      have hb0 : Below w.heap.size w W0 := by rw [hW0]; exact below_box _ _
      have hz0 : w.heap.size + 1 = W0.heap.size := by rw [hW0]; simp
      rw [← hW0]
      exact ⟨_, rfl, by have := (OwnC.empty W0).mono hb0.size; rw [← hz0] at this; exact this, hb0.trans ((below_box W0 _).mono hb0.size)⟩
    | seq x y h ha hb =>
      obtain ⟨b, off, rfl, hb0, n0, n1, n2, n3, n4⟩ := rowN_at HR.out hi h
      have hc6 := hw6
      rw [wc8_seq h ha hb] at hc6
      have I1 := fun w => IH.out x ha (by omega) (by omega) w
      have I2 := fun w => IH.out y hb (by omega) (by omega) w
      have hl := ws8_len hv i hi
      rw [ws8_seq h ha hb] at hl
      have HE := Lib.hid (ws8_seq h ha hb)
      obtain ⟨X, hX⟩ : ∃ X, X = ws8 ps x := ⟨_, rfl⟩
      obtain ⟨Y, hY⟩ : ∃ Y, Y = ws8 ps y := ⟨_, rfl⟩
      rw [← hX] at I1
      rw [← hY] at I2
      rw [← hX, ← hY, List.length_append] at hl
      rw [HE.out, ← hX, ← hY]
      have J1 := Lib.hid I1
      have J2 := Lib.hid I2
      have HL := Lib.hid (show X.length + Y.length ≤ 600 by omega)
      have HV := Lib.hid hv
      clear h hv hw6 hc6 hX hY IH I1 I2 HE hl
      go_enter Try.func50, Try.ntmps50
      go_wp2_with fail
      obtain ⟨W0, hW0⟩ : ∃ W0, W0 = w.alloc (.cells #[.int .i64 2, .int .i64 0, .int .i64 x, .int .i64 y, .int .i64 0] 28) := ⟨_, rfl⟩
      have HBW := Lib.hid (show Below w.heap.size w W0 by rw [hW0]; exact below_box _ _)
      have HN := Lib.hid (show W0.cell? ⟨w.heap.size, 2, none⟩ = some (.int .i64 x) ∧ W0.cell? ⟨w.heap.size, 3, none⟩ = some (.int .i64 y) ∧ w.heap.size < W0.heap.size by rw [hW0]; exact ⟨by go_simp, by go_simp, by simp⟩)
      rw [← hW0]
      clear hW0
      refine wp_region_held_drew (S := fun w' => w'.cell? ⟨w.heap.size, 2, none⟩ = some (.int .i64 (x : Int)) ∧ w'.cell? ⟨w.heap.size, 3, none⟩ = some (.int .i64 (y : Int))) (by kernel_rfl) ?_ (fun hHeld => ?_)
      · (try dsimp only)
        exact ⟨HN.out.1, HN.out.2.1⟩
      refine wpAnyH_take (i := 0) (v := ?_) (toArr_get _ 0 _ rfl) (by kernel_rfl) (by kernel_rfl) (by kernel_rfl) (fun _ _ _ h => h) (Or.inl ⟨by rfl, ?_⟩) (by assumption) ?_
      rotate_left
      · (intro w hSw; (try dsimp only at hSw); go_simp; (try with_reducible rfl))
      (try simp only [Act.put, List.setIfInBounds_toArray, List.set_cons_zero, List.set_cons_succ])
      refine wpAnyH_take (i := 1) (v := ?_) (toArr_get _ 1 _ rfl) (by kernel_rfl) (by kernel_rfl) (by kernel_rfl) (fun _ _ _ h => h) (Or.inl ⟨by rfl, ?_⟩) (by assumption) ?_
      rotate_left
      · (intro w hSw; (try dsimp only at hSw); go_simp; (try with_reducible rfl))
      (try simp only [Act.put, List.setIfInBounds_toArray, List.set_cons_zero, List.set_cons_succ])
      refine wpAnyH_take (i := 2) (v := ?_) (toArr_get _ 2 _ rfl) (by kernel_rfl) (by kernel_rfl) (by kernel_rfl) (fun _ _ _ h => h) (Or.inl ⟨by rfl, ?_⟩) (by assumption) ?_
      rotate_left
      · (intro w hSw; (try dsimp only at hSw); go_simp; (try with_reducible rfl))
      (try simp only [Act.put, List.setIfInBounds_toArray, List.set_cons_zero, List.set_cons_succ])
      refine wpAnyH_take (i := 3) (v := ?_) (toArr_get _ 3 _ rfl) (by kernel_rfl) (by kernel_rfl) (by kernel_rfl) (fun _ _ _ h => h) (Or.inl ⟨by rfl, ?_⟩) (by assumption) ?_
      rotate_left
      · (intro w hSw; (try dsimp only at hSw); go_simp; (try with_reducible rfl))
      (try simp only [Act.put, List.setIfInBounds_toArray, List.set_cons_zero, List.set_cons_succ])
      refine wpAnyH_take (i := 5) (v := ?_) (toArr_get _ 5 _ rfl) (by kernel_rfl) (by kernel_rfl) (by kernel_rfl) (fun _ _ _ h => h) (Or.inl ⟨by rfl, ?_⟩) (by assumption) ?_
      rotate_left
      · (intro w hSw; (try dsimp only at hSw); go_simp; (try with_reducible rfl))
      (try simp only [Act.put, List.setIfInBounds_toArray, List.set_cons_zero, List.set_cons_succ])
      refine wpAnyH_take (i := 6) (v := ?_) (toArr_get _ 6 _ rfl) (by kernel_rfl) (by kernel_rfl) (by kernel_rfl) (fun _ _ _ h => h) (Or.inl ⟨by rfl, ?_⟩) (by assumption) ?_
      rotate_left
      · (intro w hSw; (try dsimp only at hSw); go_simp; (try with_reducible rfl))
      (try simp only [Act.put, List.setIfInBounds_toArray, List.set_cons_zero, List.set_cons_succ])
      refine wpAnyH_take (i := 7) (v := ?_) (toArr_get _ 7 _ rfl) (by kernel_rfl) (by kernel_rfl) (by kernel_rfl) (fun _ _ _ h => h) (Or.inl ⟨by rfl, ?_⟩) (by assumption) ?_
      rotate_left
      · (intro w hSw; (try dsimp only at hSw); go_simp; (try with_reducible rfl))
      (try simp only [Act.put, List.setIfInBounds_toArray, List.set_cons_zero, List.set_cons_succ])
      refine wpAnyH_take (i := 8) (v := ?_) (toArr_get _ 8 _ rfl) (by kernel_rfl) (by kernel_rfl) (by kernel_rfl) (fun _ _ _ h => h) (Or.inl ⟨by rfl, ?_⟩) (by assumption) ?_
      rotate_left
      · (intro w hSw; (try dsimp only at hSw); go_simp; (try with_reducible rfl))
      (try simp only [Act.put, List.setIfInBounds_toArray, List.set_cons_zero, List.set_cons_succ])
      refine wpAnyH_ready (rs := [4]) (by kernel_rfl) (by simp) ?_
      refine AllReadyH.cons (toArr_get _ 4 _ rfl) (fun K hK => ?_) ?_
      · go_simp
        refine (J1.out _ (HR.out.below HBW.out.drew) (HC.out.below HBW.out.drew)).mono ?_
        rintro e w2 ⟨v2, rfl, o2, b2⟩
        have HD2 := Lib.hid (show Below W0.heap.size W0 w2 from (Below.refl _ W0).drew.trans b2)
        have HO2 := Lib.hid (show OwnC w2 W0.heap.size v2 X from o2)
        clear o2 b2
        have HE2 := Lib.hid (show Below w.heap.size w w2 from HBW.out.trans (HD2.out.mono HBW.out.size))
        go_wp2_with fail
        refine hK.out _ _ ?_ (fun hHeld2 => ?_)
        · (try dsimp only)
          exact ⟨(HD2.out.cell (p := ⟨w.heap.size, 2, none⟩) HN.out.2.2).trans HN.out.1, (HD2.out.cell (p := ⟨w.heap.size, 3, none⟩) HN.out.2.2).trans HN.out.2.1⟩
        clear hK K hHeld
        have hHeld := hHeld2
        clear hHeld2
        (try simp only [Act.put, List.setIfInBounds_toArray, List.set_cons_zero, List.set_cons_succ])
        refine wpAnyH_ready (rs := [9]) (by kernel_rfl) (by simp) ?_
        refine AllReadyH.cons (toArr_get _ 9 _ rfl) (fun K hK => ?_) ?_
        · go_simp
          refine (J2.out _ (HR.out.below HE2.out) (HC.out.below HE2.out)).mono ?_
          rintro e w3 ⟨v3, rfl, o3, b3⟩
          have HD3 := Lib.hid (show Below W0.heap.size W0 w3 from HD2.out.trans (b3.mono HD2.out.size))
          have HE3 := Lib.hid (show Below w.heap.size w w3 from HE2.out.trans (b3.mono HE2.out.size))
          have HO3 := Lib.hid (HO2.out.below b3)
          obtain ⟨g3, c3, rfl, -, -, n3⟩ := o3.at
          have HN3 := Lib.hid n3
          clear b3 n3 o3
          go_wp2_with fail
          refine hK.out _ _ ?_ (fun hHeld2 => ?_)
          · (try dsimp only)
            exact ⟨(HD3.out.cell (p := ⟨w.heap.size, 2, none⟩) HN.out.2.2).trans HN.out.1, (HD3.out.cell (p := ⟨w.heap.size, 3, none⟩) HN.out.2.2).trans HN.out.2.1⟩
          clear hK K hHeld
          have hHeld := hHeld2
          clear hHeld2
          (try simp only [Act.put, List.setIfInBounds_toArray, List.set_cons_zero, List.set_cons_succ])
          refine wpAnyH_ready (rs := [10]) (by kernel_rfl) (by simp) ?_
          refine AllReadyH.cons (toArr_get _ 10 _ rfl) (fun K hK => ?_) ?_
          · (try rw [if_pos (by rfl)])
            refine wp_append_own _ (.tmp 25) (.tmp 30) 30 rfl W0.heap.size 3 i0 _ 1 8 Try.underlying30 HI.out.1 HI.out.2.1 HI.out.2.2.1 HI.out.2.2.2 rfl (by decide) v2 X.length (vals (fun k => X.getD k 0) X.length) rfl HO3.out.1 ⟨g3, 0, none⟩ Y.length c3 (vals (fun k => Y.getD k 0) Y.length) rfl (by rw [vals_len, Nat.mul_one]) HN3.out (vals_one _ _) (by have := HL.out; unfold maxLen; omega) (by have := HL.out; omega) HD3.out.size ?_
            intro v4 w4 hown hgrow hnil
            have HD4 := Lib.hid (show Below W0.heap.size W0 w4 from HD3.out.grown hgrow HD3.out.size (fun k hk => (World.ownsRow.lt HO3.out.1 k hk).1))
            have HO4 := Lib.hid ((OwnC.app hown hnil HO3.out.2).mono HBW.out.size)
            clear hown hgrow hnil
            refine hK.out _ _ ?_ (fun hHeld2 => ?_)
            · (try dsimp only)
              exact ⟨(HD4.out.cell (p := ⟨w.heap.size, 2, none⟩) HN.out.2.2).trans HN.out.1, (HD4.out.cell (p := ⟨w.heap.size, 3, none⟩) HN.out.2.2).trans HN.out.2.1⟩
            clear hK K hHeld
            have hHeld := hHeld2
            clear hHeld2
            (try simp only [Act.put, List.setIfInBounds_toArray, List.set_cons_zero, List.set_cons_succ])
            refine wpAnyH_take (i := 11) (v := ?_) (toArr_get _ 11 _ rfl) (by kernel_rfl) (by kernel_rfl) (by kernel_rfl) (fun _ _ _ h => h) (Or.inl ⟨by rfl, ?_⟩) (by assumption) ?_
            rotate_left
            · (intro w hSw; (try dsimp only at hSw); go_simp; (try with_reducible rfl))
            (try simp only [Act.put, List.setIfInBounds_toArray, List.set_cons_zero, List.set_cons_succ])
            refine wpAnyH_done (by kernel_rfl) ?_ _
            go_wp2
            go_ret
            exact ⟨_, rfl, HO4.out, HBW.out.trans (HD4.out.mono HBW.out.size)⟩
          exact AllReadyH.nil
        exact AllReadyH.nil
      exact AllReadyH.nil
    | branch c x y h h1 h9 ha hb =>
      obtain ⟨b, off, rfl, hb0, n0, n1, n2, n3, n4⟩ := rowN_at HR.out hi h
      have hc6 := hw6
      rw [wc8_branch h ha hb, if_pos rfl] at hc6
      have hl := ws8_len hv i hi
      have HE := ws8_branch h ha hb
      obtain ⟨cb, co, rfl, hcb, c1⟩ := HC.out x (by omega)
      obtain ⟨cb', co', e', -, c2⟩ := HC.out y (by omega)
      simp only [Option.some.injEq, Addr.mk.injEq, and_true] at e'
      obtain ⟨rfl, rfl⟩ := e'
      simp only at c1 c2
      obtain ⟨CX, hCX⟩ : ∃ CX, CX = cp8 true ps x := ⟨_, rfl⟩
      obtain ⟨CY, hCY⟩ : ∃ CY, CY = cp8 true ps y := ⟨_, rfl⟩
      rw [← hCX] at c1 HE
      rw [← hCY] at c2 HE
      have hx0 : (0 : Int) ≤ x := by omega
      have hy0 : (0 : Int) ≤ y := by omega
      have hx1 : (x : Int) < ps.length := by omega
      have hy1 : (y : Int) < ps.length := by omega
      by_cases hle : CY ≤ CX
      · rw [if_pos hle] at HE
        rw [HE] at hl ⊢
        have I1 := fun w => IH.out x ha (by omega) (by omega) w
        obtain ⟨Y, hY⟩ : ∃ Y, Y = ws8 ps x := ⟨_, rfl⟩
        rw [← hY] at I1 hl ⊢
        have J1 := Lib.hid I1
        have HL := Lib.hid (show 1 + Y.length ≤ 600 by rw [List.length_cons] at hl; omega)
        have HV := Lib.hid hv
        have HDE := Lib.hid (show decide (CY ≤ CX) = true from decide_eq_true hle)
        clear h hv hw6 hc6 hY IH I1 HE hl hCX hCY hle
        go_enter Try.func50, Try.ntmps50
        go_wp2_with fail
        have hdec := HDE.out
        go_quiet (fail)
        obtain ⟨W0, hW0⟩ : ∃ W0, W0 = (w.alloc (.cells #[.int .i64 3, .int .i64 c, .int .i64 x, .int .i64 y, .int .i64 0] 28)).drewN nq := ⟨_, rfl⟩
        have HBW := Lib.hid (show Below w.heap.size w W0 by rw [hW0]; exact below_drewN' (below_box _ _) _)
        have e2 : W0.cell? ⟨w.heap.size, 2, none⟩ = some (.int .i64 x) := by rw [hW0]; go_simp
        have hlt : w.heap.size < W0.heap.size := by rw [hW0]; simp
        rw [← hW0]
        clear hW0
        have e4 : (W0.alloc (.cells #[.int .i64 0] 3)).cell? ⟨w.heap.size, 2, none⟩ = some (.int .i64 x) := ((below_box W0 _).cell (p := ⟨w.heap.size, 2, none⟩) hlt).trans e2
        clear e2 hlt hdec
        go_wp2_with fail
        refine (J1.out _ (HR.out.below (HBW.out.trans ((below_box W0 _).mono HBW.out.size))) (HC.out.below (HBW.out.trans ((below_box W0 _).mono HBW.out.size)))).mono ?_
        rintro e w2 ⟨v2, rfl, o2, b2⟩
        have HO2 := Lib.hid ((OwnC.one W0 0).below b2)
        have HD2 := Lib.hid (show Below W0.heap.size W0 w2 from (below_box W0 _).trans (b2.mono (below_box W0 _).size))
        obtain ⟨g3, c3, rfl, -, -, n3⟩ := o2.at
        have HN3 := Lib.hid n3
        clear o2 b2 n3
        go_wp2_with (at_builtin; refine wpList_append_own _ rfl (.tmp 45) (.tmp 50) 30 rfl W0.heap.size 3 i0 _ 1 8 Try.underlying30 HI.out.1 HI.out.2.1 HI.out.2.2.1 HI.out.2.2.2 rfl (by decide) _ 1 (vals (fun k => [(0 : Int)].getD k 0) 1) rfl HO2.out.1 ⟨g3, 0, none⟩ Y.length c3 (vals (fun k => Y.getD k 0) Y.length) rfl (by rw [vals_len, Nat.mul_one]) HN3.out (vals_one _ _) (by have := HL.out; unfold maxLen; omega) (by have := HL.out; omega) HD2.out.size ?_; intro v4 w4 hown hgrow hnil; have HD4 := Lib.hid (show Below W0.heap.size W0 w4 from HD2.out.grown hgrow HD2.out.size (fun k hk => (World.ownsRow.lt HO2.out.1 k hk).1)); have HO4 := Lib.hid ((OwnC.app (cs := [0]) (ds := Y) hown hnil HO2.out.2).mono HBW.out.size); clear hown hgrow hnil)
        go_ret
        exact ⟨_, rfl, HO4.out, HBW.out.trans (HD4.out.mono HBW.out.size)⟩
      · rw [if_neg hle] at HE
        rw [HE] at hl ⊢
        have I1 := fun w => IH.out y hb (by omega) (by omega) w
        obtain ⟨Y, hY⟩ : ∃ Y, Y = ws8 ps y := ⟨_, rfl⟩
        rw [← hY] at I1 hl ⊢
        have J1 := Lib.hid I1
        have HL := Lib.hid (show 1 + Y.length ≤ 600 by rw [List.length_cons] at hl; omega)
        have HV := Lib.hid hv
        have HDE := Lib.hid (show decide (CY ≤ CX) = false from decide_eq_false hle)
        clear h hv hw6 hc6 hY IH I1 HE hl hCX hCY hle
        go_enter Try.func50, Try.ntmps50
        go_wp2_with fail
        have hdec := HDE.out
        go_quiet (fail)
        obtain ⟨W0, hW0⟩ : ∃ W0, W0 = (w.alloc (.cells #[.int .i64 3, .int .i64 c, .int .i64 x, .int .i64 y, .int .i64 0] 28)).drewN nq := ⟨_, rfl⟩
        have HBW := Lib.hid (show Below w.heap.size w W0 by rw [hW0]; exact below_drewN' (below_box _ _) _)
        have e2 : W0.cell? ⟨w.heap.size, 3, none⟩ = some (.int .i64 y) := by rw [hW0]; go_simp
        have hlt : w.heap.size < W0.heap.size := by rw [hW0]; simp
        rw [← hW0]
        clear hW0
        have e4 : (W0.alloc (.cells #[.int .i64 1] 3)).cell? ⟨w.heap.size, 3, none⟩ = some (.int .i64 y) := ((below_box W0 _).cell (p := ⟨w.heap.size, 3, none⟩) hlt).trans e2
        clear e2 hlt hdec
        go_wp2_with fail
        refine (J1.out _ (HR.out.below (HBW.out.trans ((below_box W0 _).mono HBW.out.size))) (HC.out.below (HBW.out.trans ((below_box W0 _).mono HBW.out.size)))).mono ?_
        rintro e w2 ⟨v2, rfl, o2, b2⟩
        have HO2 := Lib.hid ((OwnC.one W0 1).below b2)
        have HD2 := Lib.hid (show Below W0.heap.size W0 w2 from (below_box W0 _).trans (b2.mono (below_box W0 _).size))
        obtain ⟨g3, c3, rfl, -, -, n3⟩ := o2.at
        have HN3 := Lib.hid n3
        clear o2 b2 n3
        go_wp2_with (at_builtin; refine wpList_append_own _ rfl (.tmp 52) (.tmp 57) 30 rfl W0.heap.size 3 i0 _ 1 8 Try.underlying30 HI.out.1 HI.out.2.1 HI.out.2.2.1 HI.out.2.2.2 rfl (by decide) _ 1 (vals (fun k => [(1 : Int)].getD k 0) 1) rfl HO2.out.1 ⟨g3, 0, none⟩ Y.length c3 (vals (fun k => Y.getD k 0) Y.length) rfl (by rw [vals_len, Nat.mul_one]) HN3.out (vals_one _ _) (by have := HL.out; unfold maxLen; omega) (by have := HL.out; omega) HD2.out.size ?_; intro v4 w4 hown hgrow hnil; have HD4 := Lib.hid (show Below W0.heap.size W0 w4 from HD2.out.grown hgrow HD2.out.size (fun k hk => (World.ownsRow.lt HO2.out.1 k hk).1)); have HO4 := Lib.hid ((OwnC.app (cs := [1]) (ds := Y) hown hnil HO2.out.2).mono HBW.out.size); clear hown hgrow hnil)
        go_ret
        exact ⟨_, rfl, HO4.out, HBW.out.trans (HD4.out.mono HBW.out.size)⟩
    | loop c x m h h1 h9 ha hm =>
      obtain ⟨b, off, rfl, hb0, n0, n1, n2, n3, n4⟩ := rowN_at HR.out hi h
      have hc6 := hw6
      rw [wc8_loop h ha, if_pos rfl] at hc6
      have hl := ws8_len hv i hi
      have HE := ws8_loop h ha
      have hx6 : 1 ≤ m → wc8 true ps x ≤ 600 := by
        intro ht
        have h2 : 1 * (c + wc8 true ps x) ≤ m * (c + wc8 true ps x) := Nat.mul_le_mul_right _ ht
        omega
      have I1 : 1 ≤ m → _ := fun ht w => IH.out x ha (by omega) (hx6 ht) w
      obtain ⟨Y, hY⟩ : ∃ Y, Y = ws8 ps x := ⟨_, rfl⟩
      rw [← hY] at I1 HE
      have hlen : ∀ j, j < m → ((m : Int) :: (List.replicate j Y).flatten).length + Y.length ≤ 600 := by
        intro j hj
        rw [HE] at hl
        simp only [List.length_cons, List.length_flatten, List.map_replicate, List.sum_replicate_nat] at hl ⊢
        have h3 : (j + 1) * Y.length ≤ m * Y.length := Nat.mul_le_mul_right _ (by omega)
        rw [Nat.add_mul, Nat.one_mul] at h3
        omega
      rw [HE]
      have J1 := Lib.hid I1
      have HL := Lib.hid hlen
      have HV := Lib.hid hv
      clear h hv hw6 hc6 hY IH I1 HE hl hx6 hlen
      go_enter Try.func50, Try.ntmps50
      obtain ⟨W0, hW0⟩ : ∃ W0, W0 = w.alloc (.cells #[.int .i64 4, .int .i64 c, .int .i64 x, .int .i64 0, .int .i64 m] 28) := ⟨_, rfl⟩
      have HBW := Lib.hid (show Below w.heap.size w W0 by rw [hW0]; exact below_box _ _)
      have HN := Lib.hid (show W0.cell? ⟨w.heap.size, 2, none⟩ = some (.int .i64 x) ∧ W0.cell? ⟨w.heap.size, 4, none⟩ = some (.int .i64 m) ∧ w.heap.size + 1 = W0.heap.size by rw [hW0]; exact ⟨by go_simp, by go_simp, by simp⟩)
      have HW0 := Lib.hid hW0
      clear hW0
      go_wp2_with fail
      rw [← HW0.out]
      go_loopg [8, 9] m (fun q z z' wr => ∃ j : Nat, q + j = m ∧ z' = .int .i64 (j : Nat) ∧ OwnC wr W0.heap.size z ((m : Int) :: (List.replicate j Y).flatten) ∧ Below W0.heap.size W0 wr)
      case atStart => exact ⟨0, rfl, rfl, by rw [HN.out.2.2]; exact OwnC.one W0 m, below_box W0 _⟩
      case round =>
        obtain ⟨j, hq, rfl, ho, hb⟩ := hrel
        have HQ := Lib.hid hq
        have HO := Lib.hid ho
        have HB := Lib.hid hb
        have e2 : wr.cell? ⟨w.heap.size, 2, none⟩ = some (.int .i64 x) := (hb.cell (p := ⟨w.heap.size, 2, none⟩) (by have := HN.out.2.2; show w.heap.size < W0.heap.size; omega)).trans HN.out.1
        have e4 : wr.cell? ⟨w.heap.size, 4, none⟩ = some (.int .i64 m) := (hb.cell (p := ⟨w.heap.size, 4, none⟩) (by have := HN.out.2.2; show w.heap.size < W0.heap.size; omega)).trans HN.out.2.1
        have HBB := Lib.hid (show Below w.heap.size w wr from HBW.out.trans (hb.mono HBW.out.size))
        have hjm : j ≤ m := by omega
        clear hq ho hb
        by_cases hlt : j < m
        · have HLJ := Lib.hid (HL.out j hlt)
          have HAP := Lib.hid (show ((m : Int) :: (List.replicate j Y).flatten) ++ Y = (m : Int) :: (List.replicate (j + 1) Y).flatten by rw [List.replicate_succ', List.flatten_append]; simp)
          have h1m : 1 ≤ m := by omega
          obtain ⟨D, hD⟩ : ∃ D, D = (m : Int) :: (List.replicate j Y).flatten := ⟨_, rfl⟩
          rw [← hD] at HO HLJ HAP
          have K1 := Lib.hid (J1.out h1m)
          clear hD h1m
          go_wp2_with fail
          refine (K1.out _ (HR.out.below HBB.out) (HC.out.below HBB.out)).mono ?_
          rintro e w2 ⟨v2, rfl, o2, b2⟩
          have HO2 := Lib.hid (HO.out.below b2)
          have HD2 := Lib.hid (show Below W0.heap.size W0 w2 from HB.out.trans (b2.mono HB.out.size))
          obtain ⟨g3, c3, rfl, -, -, n3⟩ := o2.at
          have HN3 := Lib.hid n3
          obtain ⟨ga, cga, rfl, -, -, -⟩ := HO2.out.at
          clear o2 b2 n3
          go_wp2_with (at_builtin; refine wpList_append_own _ rfl (.tmp 68) (.tmp 73) 30 rfl W0.heap.size 3 i0 _ 1 8 Try.underlying30 HI.out.1 HI.out.2.1 HI.out.2.2.1 HI.out.2.2.2 rfl (by decide) _ D.length (vals (fun k => D.getD k 0) D.length) rfl HO2.out.1 ⟨g3, 0, none⟩ Y.length c3 (vals (fun k => Y.getD k 0) Y.length) rfl (by rw [vals_len, Nat.mul_one]) HN3.out (vals_one _ _) (by have := HLJ.out; unfold maxLen; omega) (by have := HLJ.out; omega) HD2.out.size ?_; intro v4 w4 hown hgrow hnil; have HD4 := Lib.hid (show Below W0.heap.size W0 w4 from HD2.out.grown hgrow HD2.out.size (fun k hk => (World.ownsRow.lt HO2.out.1 k hk).1)); have HO4 := Lib.hid (show OwnC w4 W0.heap.size v4 ((m : Int) :: (List.replicate (j + 1) Y).flatten) by rw [← HAP.out]; exact OwnC.app hown hnil HO2.out.2); clear hown hgrow hnil)
          go_roundg (gk - 1)
          case measure => have := HQ.out; omega
          case rel => exact ⟨j + 1, by have := HQ.out; omega, by go_num, HO4.out, HD4.out⟩
        · obtain rfl : j = m := by omega
          go_wp2
          go_ret
          exact ⟨_, rfl, HO.out.mono HBW.out.size, HBB.out⟩

set_option maxRecDepth 100000 in
set_option maxHeartbeats 2000000 in
/-- spec.WorstChoices. -/
theorem specWorstChoices_any (a : Option Addr) (cap : Nat) (ps : List N5) (w : World) (hr : RowN w a ps) (hn : ps.length ≤ 1099511627776) :
    Calls Try.prog 25 #[.slice a ps.length cap] w fun e w' => ∃ v', e = .returned v' ∧ OwnC w' w.heap.size v' (wh8 ps) ∧ Below w.heap.size w w' := by
  have HR := Lib.hid hr
  clear hr
  go_enter Try.func25, Try.ntmps25
  go_wp2_with fail
  refine (specProgramValid_any a cap ps w HR.out hn).mono ?_
  rintro e w1 ⟨rfl, b1⟩
  have B1 := Lib.hid b1
  have HR1 := Lib.hid (HR.out.below b1)
  clear b1
  cases hv : pvB ps with
  | false =>
    have HF := Lib.hid (show wh8 ps = [] from if_neg (by rw [hv]; simp))
    clear hv
    go_wp2
    go_ret
    rw [HF.out]
    exact ⟨_, rfl, (OwnC.empty w1).mono B1.out.size, B1.out.trans ((below_box w1 _).mono B1.out.size)⟩
  | true =>
    obtain ⟨⟨hl1, hl2⟩, hpv, -⟩ := pv_iff.1 hv
    have HPV := Lib.hid hpv
    obtain ⟨L, hL⟩ : ∃ L : Nat, L + 1 = ps.length := ⟨ps.length - 1, by omega⟩
    have J := fun ca cc (w : World) hr hc => l8Worst_any a cap ca cc ps hpv (by omega) (ps.length - 1) (by omega) (pv_cst hv) w hr hc
    have HF : wh8 ps = _ := if_pos hv
    rw [show ps.length - 1 = L by omega] at J HF
    have HJ := Lib.hid J
    have HF := Lib.hid HF
    have hw : IntKind.i64.wrap ((ps.length : Int) - 1) = (L : Int) := by rw [IntWalk.i64_in _ (by omega)]; omega
    clear hv hpv J hL
    go_wp2_with fail
    refine (l8Costs_any a cap ps true w1 HR1.out HPV.out (by omega)).mono ?_
    rintro e w2 ⟨v, rfl, ho, b2⟩
    have HB2 := Lib.hid (B1.out.trans (b2.mono B1.out.size))
    have HR2 := Lib.hid (HR1.out.below b2)
    obtain ⟨ca, cc, rfl, hci, -, -⟩ := ho.intF
    have HCI := Lib.hid hci
    clear ho b2 hci
    go_wp2_with fail
    refine (HJ.out _ _ _ HR2.out HCI.out).mono ?_
    rintro e w3 ⟨v3, rfl, o3, b3⟩
    have HO3 := Lib.hid o3
    have HB3 := Lib.hid (HB2.out.trans (b3.mono HB2.out.size))
    clear o3 b3
    go_wp2
    go_ret
    rw [HF.out]
    exact ⟨_, rfl, HO3.out.mono HB2.out.size, HB3.out⟩

end Go.Proofs.Ytlcdmjcikbgnpaa
