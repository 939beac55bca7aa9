/- The methods Push and Pop of impl.readyJobs, and container/heap's up, down, Push and Pop over them. Conditions: the cells hold what is said; at most 60 jobs. -/
import Derived.Test.YtlagghoohloklaaHeapMem
namespace Go.Proofs.Ytlagghoohloklaa
open Go.RowKit Go.Deep
variable {w0 w w' : World} {R N n : Nat} {cb v : Value} {f : Nat → Nat}

theorem HS.push {v' : Value} {x : Nat} (h : HS w0 R cb N w v n f) (ho : w'.ownsRow w0.heap.size 3 1 v' (n + 1) (vals (fun k => ((f k : Nat) : Int)) n ++ [.int .i64 (x : Int)])) (hg : w.grownBy w' v.ownBlock)
    (hp : v'.ownBlock = v.ownBlock ∨ v'.ownBlock = some w.heap.size) (hx : x < N) : HS w0 R cb N (w'.setCell ⟨R, 0, none⟩ v') v' (n + 1) (fun k => if k = n then x else f k) := by
  have hR := h.R_lt
  have eR : w'.heap[R]? = w.heap[R]? := hg.block R hR (fun e => h.ap e.symm)
  have c0 := (World.cell?_of_block (a := ⟨R, 0, none⟩) eR).trans h.c0
  have c1 := (World.cell?_of_block (a := ⟨R, 1, none⟩) eR).trans h.c1
  have f0 := (World.frozen?_of_block (a := ⟨R, 0, none⟩) eR).trans h.f0
  have ap' : v'.ownBlock ≠ some R := by
    rcases hp with e | e
    · rw [e]; exact h.ap
    · rw [e]; intro e2; simp only [Option.some.injEq] at e2; omega
  have own : OwnI w' w0.heap.size v' (n + 1) (fun k => (((if k = n then x else f k : Nat)) : Int)) := by
    unfold OwnI
    rw [vals_succ]
    have e1 : vals (fun k => (((if k = n then x else f k : Nat)) : Int)) n = vals (fun k => ((f k : Nat) : Int)) n := by
      simp only [vals]
      refine List.map_congr_left fun k hk => ?_
      have hk' := List.mem_range.1 hk
      rw [if_neg (by omega)]
    rw [e1, if_pos rfl]
    exact ho
  refine ⟨(h.bl.grown hg h.bl.size (fun k hk => (h.own.lt k hk).1)).setCell h.ge _, h.ge, ?_, by simp [go_sem, c1], by simp [go_sem, f0], own.other ap', ap', fun k hk => ?_⟩
  · simp [go_sem, c0]
  · split
    · exact hx
    · exact h.lt k (by omega)

theorem Chg.of_grown {g : Option Nat} (h : w.grownBy w' g) : Chg R g w w' := ⟨h.os, h.tape, h.output, h.size, fun k hk _ h2 => h.block k hk h2⟩
theorem Chg.setR {g : Option Nat} {o : Nat} {x : Value} (h : Chg R g w w') : Chg R g w (w'.setCell ⟨R, o, none⟩ x) := h.setCell (p := ⟨R, o, none⟩) (.inl rfl) x
theorem OwnI.shrink {base g cap m : Nat} {f : Nat → Int} (h : OwnI w base (.slice (some ⟨g, 0, none⟩) (m + 1) cap) (m + 1) f) : OwnI w base (.slice (some ⟨g, 0, none⟩) m cap) m f := by
  obtain ⟨h1, ⟨e, _⟩ | ⟨g', cap', cur, e, h3, hb, hnc, hcm, hsz, hx⟩⟩ := h
  · simp at e
  · simp only [Value.slice.injEq, Option.some.injEq, Addr.mk.injEq, and_true, true_and] at e
    obtain ⟨rfl, rfl⟩ := e
    refine ⟨by rw [vals_len, Nat.mul_one], .inr ⟨g, cap, cur, rfl, h3, hb, by omega, hcm, hsz, ?_⟩⟩
    have h4 := congrArg (List.take m) hx
    have h5 : List.take m (vals f m) = vals f m := List.take_of_length_le (by rw [vals_len]; exact Nat.le_refl _)
    rw [List.take_take, vals_succ, List.take_append_of_le_length (by rw [vals_len]; exact Nat.le_refl _), h5, show min m ((m + 1) * 1) = m * 1 by omega] at h4
    exact h4
theorem HS.shrink {g cap m : Nat} (h : HS w0 R cb N w (.slice (some ⟨g, 0, none⟩) (m + 1) cap) (m + 1) f) : HS w0 R cb N (w.setCell ⟨R, 0, none⟩ (.slice (some ⟨g, 0, none⟩) m cap)) (.slice (some ⟨g, 0, none⟩) m cap) m f := by
  have c0 := h.c0
  have c1 := h.c1
  have f0 := h.f0
  exact ⟨h.bl.setCell h.ge _, h.ge, by simp [go_sem, c0], by simp [go_sem, c1], by simp [go_sem, f0], h.own.shrink.other h.ap, h.ap, fun k hk => h.lt k (by omega)⟩
theorem run_assert_int (x : Int) (w : World) : (Instr.typeAssert (.iface 3 (.int .i64 x)) 20 3 true).run Try.prog w = .ok (.tuple #[.int .i64 x, .bool true]) w := by kernel_rfl

set_option maxRecDepth 100000 in
/-- impl.readyJobs.Push. -/
theorem pushM_any {x : Nat} (h : HS w0 R cb N w v n f) (hx : x < N) (hn : n ≤ 60) :
    Calls Try.prog 156 #[.pointer (some ⟨R, 0, none⟩), .iface 3 (.int .i64 (x : Int))] w fun e w' =>
      e = .returned (.tuple #[]) ∧ ∃ v', HS w0 R cb N w' v' (n + 1) (fun k => if k = n then x else f k) ∧ Chg R v.ownBlock w w' ∧ (v'.ownBlock = v.ownBlock ∨ ∃ k, v'.ownBlock = some k ∧ w.heap.size ≤ k) := by
  obtain ⟨i0, hi, hz, hsz, hby⟩ := info_parts intInfo
  have HI := Lib.hid (And.intro hi (And.intro hz (And.intro hsz hby)))
  clear hi hz hsz hby
  obtain ⟨a, cap, rfl⟩ := own_shape h.own
  have c0 := h.c0
  have f0 := h.f0
  have HH := Lib.hid h
  have hsz := h.bl.size
  clear h
  have hta := run_assert_int (x : Int)
  go_enter Try.func156, Try.ntmps156
  go_wp2_with (at_builtin; refine wpList_append_at _ rfl (.tmp 16) (.tmp 18) 28 rfl w0.heap.size 3 i0 _ 1 8 Try.underlying28 HI.out.1 HI.out.2.1 HI.out.2.2.1 HI.out.2.2.2 rfl (by decide) _ n (vals (fun k => ((f k : Nat) : Int)) n) rfl (World.ownsRow.alloc HH.out.own _) ⟨w.heap.size, 0, none⟩ 1 1 [.int .i64 (x : Int)] rfl rfl (news1 _ _ _) (one1 _) (by unfold maxLen; omega) (by omega) (by simp; omega) (by decide) ?_; intro v1 w1 ho1 hg1 hp1 hn1; obtain ⟨a1, cap1, rfl⟩ := own_shape ho1; have HS1 := Lib.hid ((HH.out.below (below_box w (.cells #[.int .i64 (x : Int)] 3))).push ho1 hg1 hp1 hx); have d0 : w1.cell? ⟨R, 0, none⟩ = some (.slice a n cap) := ((World.cell?_of_block (a := ⟨R, 0, none⟩) (hg1.block R (by have := HH.out.R_lt; simp; omega) (fun e => HH.out.ap e.symm))).trans ((HH.out.below (below_box w (.cells #[.int .i64 (x : Int)] 3))).c0)); have d1 : w1.frozen? ⟨R, 0, none⟩ = false := ((World.frozen?_of_block (a := ⟨R, 0, none⟩) (hg1.block R (by have := HH.out.R_lt; simp; omega) (fun e => HH.out.ap e.symm))).trans ((HH.out.below (below_box w (.cells #[.int .i64 (x : Int)] 3))).f0)); have HG := Lib.hid (And.intro hg1 hp1); clear ho1 hg1 hp1 hn1)
  go_end0
  refine ⟨rfl, _, HS1.out, ?_, ?_⟩
  · have h1 : Chg R (Value.slice a n cap).ownBlock w w1 := (Chg.of_below (below_box w (.cells #[.int .i64 (x : Int)] 3))).trans (Chg.of_grown HG.out.1) (fun _ h => .inl h)
    exact h1.setR
  · exact HG.out.2.imp id fun e => ⟨_, e, by simp⟩

set_option maxRecDepth 100000 in
/-- impl.readyJobs.Pop. -/
theorem popM_any {g cap m : Nat} (h : HS w0 R cb N w (.slice (some ⟨g, 0, none⟩) (m + 1) cap) (m + 1) f) (hm : m ≤ 60) :
    Calls Try.prog 155 #[.pointer (some ⟨R, 0, none⟩)] w fun e w' =>
      e = .returned (.iface 3 (.int .i64 (f m : Int))) ∧ HS w0 R cb N w' (.slice (some ⟨g, 0, none⟩) m cap) m f ∧ Chg R (some g) w w' := by
  obtain ⟨g', cap', e, _, _, hcap, _, hc⟩ := h.own.at (Nat.succ_pos m)
  simp only [Value.slice.injEq, Option.some.injEq, Addr.mk.injEq, and_true, true_and] at e
  obtain ⟨rfl, rfl⟩ := e
  have c0 := h.c0
  have f0 := h.f0
  have xm := hc m (Nat.lt_succ_self m)
  have HH := Lib.hid h
  clear h hc
  have hm0 : (0 : Int) ≤ m := by omega
  have hm1 : (m : Int) < (m : Int) + 1 := by omega
  go_enter Try.func155, Try.ntmps155
  go_wp2
  go_ret
  exact ⟨rfl, HH.out.shrink, (Chg.refl R (some g) w).setR⟩

end Go.Proofs.Ytlagghoohloklaa
