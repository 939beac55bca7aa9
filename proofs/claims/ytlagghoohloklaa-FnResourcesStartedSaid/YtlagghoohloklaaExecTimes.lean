/- Contract of impl.executionTimes. Conditions: the slice holds what is said, at most 60 jobs. -/
import Derived.Test.YtlagghoohloklaaRunSpec
namespace Go.Proofs.Ytlagghoohloklaa
open Go.RowKit Go.Deep

theorem news1At (w : World) (c : Int) (t : TypeId) {k : Nat} (hk : w.heap.size = k) : ∀ (j : Nat) (u : Value), [Value.int .i64 c][j]? = some u → (w.alloc (.cells #[.int .i64 c] t)).cell? ((⟨k, 0, none⟩ : Addr).add j) = some u := by
  subst hk
  exact news1 w c t
theorem run_make_cap (n : Nat) (hn : n ≤ 1099511627776) (w : World) :
    (Instr.makeSlice 28 (.int .i64 0) (.int .i64 (n : Int))).run Try.prog w = .ok (.slice (some ⟨w.heap.size, 0, none⟩) 0 n) (w.alloc (.cells (madeCells #[.int .i64 0] n) 3)) := by
  obtain ⟨i, hi, hz, hs, hb⟩ := info_parts intInfo
  have h := run_make (P := Try.prog) w 28 3 i _ Try.underlying28 hi hz .i64 .i64 (0 : Int) (n : Int) (by omega) (by omega) (by rw [hb]; omega) (by omega)
  rw [hs] at h
  simpa [Value.cells] using h

set_option maxRecDepth 100000 in
set_option maxHeartbeats 1000000 in
/-- impl.executionTimes. -/
theorem execTimes_any (ja : Option Addr) (jcap : Nat) (js : List J4) (w : World) (hj : RowJ w ja js) (hn : js.length ≤ 60) :
    Calls Try.prog 107 #[.slice ja js.length jcap] w fun e w' =>
      ∃ v, e = .returned v ∧ OwnI w' w.heap.size v js.length (fun k => (jb js k).2.2.2) ∧ Below w.heap.size w w' := by
  obtain ⟨i0, hi, hz, hsz, hby⟩ := info_parts intInfo
  have HI := Lib.hid (And.intro hi (And.intro hz (And.intro hsz hby)))
  clear hi hz hsz hby
  have HJ := Lib.hid hj
  clear hj
  have hmk := run_make_cap js.length (by omega)
  go_enter Try.func107, Try.ntmps107
  go_wp2
  clear hmk
  go_loopg [3, 11] js.length (fun m s i wr => ∃ k : Nat, m + k = js.length ∧ i = .int .i64 k ∧ OwnI wr w.heap.size s k (fun k => (jb js k).2.2.2) ∧ Below w.heap.size w wr)
  case atStart => exact ⟨0, rfl, rfl, World.ownsRow_made w _ js.length (Nat.le_refl _) (by unfold maxLen; omega) (by simp [size_madeCells]), below_box _ _⟩
  case round =>
    obtain ⟨k, hk, rfl, ho, B⟩ := hrel
    have HK := Lib.hid hk
    have HO := Lib.hid ho
    have hkk : k ≤ js.length := by omega
    clear hk ho
    by_cases hlt : k < js.length
    · have RJ := Lib.hid (HJ.out.below B)
      obtain ⟨bj, oj, rfl, hbj, x0, x1, x2, x3⟩ := RJ.out k hlt
      obtain ⟨⟨id, r, dl, c⟩, hJ⟩ : ∃ j, j = jb js k := ⟨_, rfl⟩
      rw [← hJ] at x0 x1 x2 x3
      simp only at x0 x1 x2 x3
      have HJK := Lib.hid hJ
      clear hJ
      have hk0 : (0 : Int) ≤ k := by omega
      have hk1 : (k : Int) < js.length := by omega
      go_wp2_with (at_builtin; refine wpList_append_own _ rfl (.tmp 15) (.tmp 18) 28 rfl w.heap.size 3 i0 _ 1 8 Try.underlying28 HI.out.1 HI.out.2.1 HI.out.2.2.1 HI.out.2.2.2 rfl (by decide) _ k (vals (fun k => (jb js k).2.2.2) k) rfl (World.ownsRow.alloc (World.ownsRow.alloc HO.out _) _) ⟨wr.heap.size + 1, 0, none⟩ 1 1 [.int .i64 c] rfl rfl (news1At (wr.alloc (.cells #[.int .i64 id, .int .i64 r, .int .i64 dl, .int .i64 c] 41)) _ _ (by simp)) (one1 _) (by unfold maxLen; omega) (by omega) (by have := B.size; simp; omega) ?_; intro v' w' hown' hgrow hnil)
      have B0 : Below w.heap.size w ((wr.alloc (.cells #[.int .i64 id, .int .i64 r, .int .i64 dl, .int .i64 c] 41)).alloc (.cells #[.int .i64 c] 3)) := (B.alloc B.size _).alloc (by have := B.size; simp; omega) _
      have B1 : Below w.heap.size w w' := B0.grown hgrow B0.size (fun k hk => HO.out.from k hk)
      have HO1 := Lib.hid (show OwnI w' w.heap.size v' (k + 1) (fun k => (jb js k).2.2.2) by unfold OwnI; rw [vals_succ]; rw [← HJK.out]; exact hown')
      clear hown' hgrow hnil B0
      go_roundg (gk - 1)
      case measure => have := HK.out; omega
      case rel => exact ⟨k + 1, by have := HK.out; omega, by go_num, HO1.out, B1⟩
    · obtain rfl : k = js.length := by omega
      go_wp2
      go_ret
      exact ⟨_, rfl, HO.out, B⟩

end Go.Proofs.Ytlagghoohloklaa
