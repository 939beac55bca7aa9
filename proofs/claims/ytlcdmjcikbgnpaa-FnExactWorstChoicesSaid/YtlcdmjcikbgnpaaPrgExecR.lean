/- Contract of the method run of an execution of a program, whatever chooses; and of impl.executed. Conditions: those of Chooser. -/
import Derived.Test.YtlcdmjcikbgnpaaPrgExec
import Derived.Test.YtlcdmjcikbgnpaaPrgExecB
import Derived.StillTailTactics
namespace Go.Proofs.Ytlcdmjcikbgnpaa
open Go.RowKit Go.Deep

set_option maxRecDepth 100000 in
set_option maxHeartbeats 4000000 in
/-- (*impl.execution).run. -/
theorem run_any {ps : List N5} {a : Option Addr} {cap B0 E nB fn p1 p2 : Nat} {St : World → Nat → List Int → Prop} {ch : Nat → Nat → List Int → Nat × List Int} {rs : Nat → List Int → Nat × List Int} {Len : List Int → Nat → Prop} (C : Chooser ps a B0 E nB fn p1 p2 St ch rs Len)
    : ∀ (i : Nat), i < ps.length → wc8 true ps i ≤ 600 → ∀ (w : World) (sb t : Nat) (s : List Int), Exs ps a cap E fn p1 p2 nB St Len w sb s t → t + wc8 true ps i ≤ 600 → Calls Try.prog 56 #[.pointer (some ⟨E, 0, none⟩), .int .i64 (i : Int)] w (RunPost ps a cap E fn p1 p2 nB St Len w sb t (rs i s)) := by
  intro i
  induction i using Nat.strongRecOn with
  | _ i ih =>
    intro hi h6 w sb t s hx ht
    have IH : ∀ j, j < i → wc8 true ps j ≤ 600 → ∀ (w : World) (sb t : Nat) (s : List Int), Exs ps a cap E fn p1 p2 nB St Len w sb s t → t + wc8 true ps j ≤ 600 → Calls Try.prog 56 #[.pointer (some ⟨E, 0, none⟩), .int .i64 (j : Int)] w (RunPost ps a cap E fn p1 p2 nB St Len w sb t (rs j s)) := fun j hj h6 w sb t s hx ht => ih j hj (by omega) h6 w sb t s hx ht
    have hxd : Exs ps a cap E fn p1 p2 nB St Len w.drew sb s t := hx.below C (Below.refl _ _).drew
    have HP := Lib.hid (fun (r : Nat × List Int) e (w' : World) (hp : RunPost ps a cap E fn p1 p2 nB St Len w.drew sb t r e w') => show RunPost ps a cap E fn p1 p2 nB St Len w sb t r e w' by
      obtain ⟨he, sb', h1, h2, h3⟩ := hp
      exact ⟨he, sb', h1, (ChgP.of (P := Foot E nB sb) (Below.refl _ w).drew).trans h2 (fun _ _ h => h), h3⟩)
    have hi0 : (0 : Int) ≤ i := by omega
    have hi1 : (i : Int) < ps.length := by omega
    obtain ⟨r, hr⟩ : ∃ r, r = rs i s := ⟨_, rfl⟩
    cases nv_of (C.pv i hi) with
    | block c h h1 h9 =>
      have HCON := Lib.hid (runBlock_any C i c hi h w.drew sb t s hxd (by have := wc8_block (w := true) h; omega))
      rw [← hr] at HCON
      rw [← hr]
      obtain ⟨b, off, e, hbb, n0, -, -, -, -⟩ := rowN_at hx.row hi h
      have x0 := hx.ex.c0
      rw [e] at x0
      have kf : w.cell? ⟨E, 6, none⟩ = some (.func (.func 60) #[] #[]) := hx.ex.ck 5 _ rfl
      clear hx hxd C ih IH h hr ht h6 e
      go_enter Try.func56, Try.ntmps56
      go_wp2
      refine wp_region_still_tail 16 (by kernel_rfl) (by kernel_rfl) ?_
      simp only [List.take_succ_cons, List.take_zero, List.drop_succ_cons, List.drop_zero]
      change wpStill _ _ (World.drew w) (fun a' => wpList _ _ _ _ a' (World.drew w)) _ _
      iterate 16 still_step
      refine wpStill_nil ?_
      go_wp2_with fail
      refine HCON.out.mono ?_
      intro e w1 hp
      have hq := HP.out _ _ _ hp
      clear hp
      obtain ⟨rfl, hq2⟩ := hq
      have HQ := Lib.hid hq2
      clear hq2
      go_wp2
      go_end0
      exact ⟨rfl, HQ.out⟩
    | seq x y h ha hb =>
      have HCON := Lib.hid (runSeq_any C i x y hi h ha hb w.drew sb t s hxd ht IH)
      rw [← hr] at HCON
      rw [← hr]
      obtain ⟨b, off, e, hbb, n0, -, -, -, -⟩ := rowN_at hx.row hi h
      have x0 := hx.ex.c0
      rw [e] at x0
      have kf : w.cell? ⟨E, 9, none⟩ = some (.func (.func 63) #[] #[]) := hx.ex.ck 8 _ rfl
      clear hx hxd C ih IH h hr ht h6 e
      go_enter Try.func56, Try.ntmps56
      go_wp2
      refine wp_region_still_tail 16 (by kernel_rfl) (by kernel_rfl) ?_
      simp only [List.take_succ_cons, List.take_zero, List.drop_succ_cons, List.drop_zero]
      change wpStill _ _ (World.drew w) (fun a' => wpList _ _ _ _ a' (World.drew w)) _ _
      iterate 16 still_step
      refine wpStill_nil ?_
      go_wp2_with fail
      refine HCON.out.mono ?_
      intro e w1 hp
      have hq := HP.out _ _ _ hp
      clear hp
      obtain ⟨rfl, hq2⟩ := hq
      have HQ := Lib.hid hq2
      clear hq2
      go_wp2
      go_end0
      exact ⟨rfl, HQ.out⟩
    | branch c x y h h1 h9 ha hb =>
      have HCON := Lib.hid (runBranch_any C i c x y hi h h1 h9 ha hb w.drew sb t s hxd ht IH)
      rw [← hr] at HCON
      rw [← hr]
      obtain ⟨b, off, e, hbb, n0, -, -, -, -⟩ := rowN_at hx.row hi h
      have x0 := hx.ex.c0
      rw [e] at x0
      have kf : w.cell? ⟨E, 12, none⟩ = some (.func (.func 66) #[] #[]) := hx.ex.ck 11 _ rfl
      clear hx hxd C ih IH h hr ht h6 e
      go_enter Try.func56, Try.ntmps56
      go_wp2
      refine wp_region_still_tail 16 (by kernel_rfl) (by kernel_rfl) ?_
      simp only [List.take_succ_cons, List.take_zero, List.drop_succ_cons, List.drop_zero]
      change wpStill _ _ (World.drew w) (fun a' => wpList _ _ _ _ a' (World.drew w)) _ _
      iterate 16 still_step
      refine wpStill_nil ?_
      go_wp2_with fail
      refine HCON.out.mono ?_
      intro e w1 hp
      have hq := HP.out _ _ _ hp
      clear hp
      obtain ⟨rfl, hq2⟩ := hq
      have HQ := Lib.hid hq2
      clear hq2
      go_wp2
      go_end0
      exact ⟨rfl, HQ.out⟩
    | loop c x m h h1 h9 ha hm =>
      have HCON := Lib.hid (runLoop_any C i c x m hi h h1 h9 ha hm w.drew sb t s hxd ht IH)
      rw [← hr] at HCON
      rw [← hr]
      obtain ⟨b, off, e, hbb, n0, -, -, -, -⟩ := rowN_at hx.row hi h
      have x0 := hx.ex.c0
      rw [e] at x0
      have kf : w.cell? ⟨E, 15, none⟩ = some (.func (.func 69) #[] #[]) := hx.ex.ck 14 _ rfl
      clear hx hxd C ih IH h hr ht h6 e
      go_enter Try.func56, Try.ntmps56
      go_wp2
      refine wp_region_still_tail 16 (by kernel_rfl) (by kernel_rfl) ?_
      simp only [List.take_succ_cons, List.take_zero, List.drop_succ_cons, List.drop_zero]
      change wpStill _ _ (World.drew w) (fun a' => wpList _ _ _ _ a' (World.drew w)) _ _
      iterate 16 still_step
      refine wpStill_nil ?_
      go_wp2_with fail
      refine HCON.out.mono ?_
      intro e w1 hp
      have hq := HP.out _ _ _ hp
      clear hp
      obtain ⟨rfl, hq2⟩ := hq
      have HQ := Lib.hid hq2
      clear hq2
      go_wp2
      go_end0
      exact ⟨rfl, HQ.out⟩
end Go.Proofs.Ytlcdmjcikbgnpaa
