/- Slices of integers that a function has grown by itself; contract of spec.l3Deadlines. Conditions: the slice holds what is said, at most 60 jobs. -/
import Derived.Test.YtpnfbgbbmpacfaaJobs
import Derived.Test.YtpnfbgbbmpacfaaDrawSet
namespace Go.Proofs.Ytpnfbgbbmpacfaa
open Go.RowKit Go.Deep

theorem intInfo : (Try.prog.info? 3).map (fun i => (i.zero, i.size, i.bytes)) = some (some (.int .i64 0), 1, 8) := by kernel_rfl
def vals (f : Nat → Int) (n : Nat) : List Value := (List.range n).map fun k => .int .i64 (f k)
theorem vals_len (f : Nat → Int) (n : Nat) : (vals f n).length = n := by simp [vals]
theorem vals_succ (f : Nat → Int) (n : Nat) : vals f (n + 1) = vals f n ++ [.int .i64 (f n)] := by simp [vals, List.range_succ]
theorem vals_at (f : Nat → Int) {n k : Nat} (h : k < n) : (vals f n)[k]? = some (.int .i64 (f k)) := by simp [vals, h]
/-- From block base on: a slice of its own that holds the first n values of f. -/
def OwnI (w : World) (base : Nat) (v : Value) (n : Nat) (f : Nat → Int) : Prop := w.ownsRow base 3 1 v n (vals f n)
theorem OwnI.intF {w : World} {base : Nat} {v : Value} {n : Nat} {f : Nat → Int} (h : OwnI w base v n f) : ∃ a cap, v = .slice a n cap ∧ IntF w a n f ∧ n ≤ cap ∧ cap ≤ maxLen := by
  obtain ⟨_, ⟨rfl, hn⟩ | ⟨g, cap, cur, rfl, _, hb, hnc, hcm, hsz, hx⟩⟩ := h
  · exact ⟨none, 0, by rw [hn], fun k hk => by omega, by omega, by simp [maxLen]⟩
  · refine ⟨some ⟨g, 0, none⟩, cap, rfl, fun k hk => ?_, hnc, hcm⟩
    have hg : g < w.heap.size := (Array.getElem?_eq_some_iff.1 hb).1
    refine ⟨g, 0, rfl, hg, ?_⟩
    rw [Nat.zero_add, ← vals_at f hk, ← hx, List.getElem?_take_of_lt (by omega), Array.getElem?_toList]
    simp [World.cell?, hb]
theorem OwnI.from {w : World} {base : Nat} {v : Value} {n : Nat} {f : Nat → Int} (h : OwnI w base v n f) : ∀ k, v.ownBlock = some k → base ≤ k := by
  intro k hk
  obtain ⟨_, ⟨rfl, _⟩ | ⟨g, cap, cur, rfl, hb, _⟩⟩ := h
  · simp [Value.ownBlock] at hk
  · simp only [Value.ownBlock, Option.some.injEq] at hk
    omega
theorem OwnI.empty (w : World) (f : Nat → Int) : OwnI (w.alloc (.cells #[] 3)) w.heap.size (.slice (some ⟨w.heap.size, 0, none⟩) 0 0) 0 f :=
  ⟨rfl, .inr ⟨w.heap.size, 0, #[], rfl, Nat.le_refl _, blk_alloc_new _ _, Nat.le_refl _, by simp [maxLen], rfl, rfl⟩⟩
theorem OwnI.nil (w : World) (base : Nat) (f : Nat → Int) : OwnI w base (.slice none 0 0) 0 f := ⟨rfl, .inl ⟨rfl, rfl⟩⟩
theorem OwnI.congr {w : World} {base : Nat} {v : Value} {n : Nat} {f f' : Nat → Int} (h : OwnI w base v n f) (e : ∀ k, k < n → f k = f' k) : OwnI w base v n f' := by
  have : vals f n = vals f' n := by
    simp only [vals]
    exact List.map_congr_left fun k hk => by rw [e k (List.mem_range.1 hk)]
  unfold OwnI at h ⊢
  rwa [← this]
theorem news1 (w : World) (c : Int) (t : TypeId) : ∀ (j : Nat) (u : Value), [Value.int .i64 c][j]? = some u → (w.alloc (.cells #[.int .i64 c] t)).cell? ((⟨w.heap.size, 0, none⟩ : Addr).add j) = some u := by
  intro j u hj
  match j, hj with
  | 0, hj => simp at hj; subst hj; simp [Addr.add, go_sem]
  | j + 1, hj => simp at hj
theorem one1 (c : Int) : ∀ u ∈ [Value.int .i64 c], u.oneCell' = true := by
  intro u hu
  simp at hu
  subst hu
  rfl

set_option maxHeartbeats 1000000 in
/-- spec.l3Deadlines. -/
theorem l3Deadlines_any (ja : Option Addr) (jcap : Nat) (js : List J4) (w : World) (hj : RowJ w ja js) (hn : js.length ≤ 60) :
    Calls Try.prog 72 #[.slice ja js.length jcap] w fun e w' =>
      ∃ v, e = .returned v ∧ OwnI w' w.heap.size v js.length (fun k => (jb js k).2.2.1) ∧ Below w.heap.size w w' := by
  obtain ⟨i0, hi, hz, hsz, hby⟩ := info_parts intInfo
  have HI := Lib.hid (And.intro hi (And.intro hz (And.intro hsz hby)))
  clear hi hz hsz hby
  have HJ := Lib.hid hj
  clear hj
  go_enter Try.func72, Try.ntmps72
  go_wp2
  go_loopg [3, 4] js.length (fun m s i wr => ∃ k : Nat, m + k = js.length ∧ i = .int .i64 k ∧ OwnI wr w.heap.size s k (fun k => (jb js k).2.2.1) ∧ Below w.heap.size w wr)
  case atStart => exact ⟨0, rfl, rfl, OwnI.empty w _, below_box _ _⟩
  case round =>
    obtain ⟨k, hk, rfl, ho, B⟩ := hrel
    have HK := Lib.hid hk
    have HO := Lib.hid ho
    have hkk : k ≤ js.length := by omega
    clear hk ho
    by_cases hlt : k < js.length
    · have RJ := Lib.hid (HJ.out.below B)
      obtain ⟨bj, oj, rfl, hbj, _, _, x2, _⟩ := RJ.out k hlt
      obtain ⟨c, hc⟩ : ∃ c, c = (jb js k).2.2.1 := ⟨_, rfl⟩
      rw [← hc] at x2
      have HC := Lib.hid hc
      clear hc
      have hk0 : (0 : Int) ≤ k := by omega
      have hk1 : (k : Int) < js.length := by omega
      go_wp2_with (at_builtin; refine wpList_append_own _ rfl (.tmp 12) (.tmp 18) 41 rfl w.heap.size 3 i0 _ 1 8 Try.underlying41 HI.out.1 HI.out.2.1 HI.out.2.2.1 HI.out.2.2.2 rfl (by decide) _ k (vals (fun k => (jb js k).2.2.1) k) rfl (World.ownsRow.alloc HO.out _) ⟨wr.heap.size, 0, none⟩ 1 1 [.int .i64 c] rfl rfl (news1 _ _ _) (one1 _) (by unfold maxLen; omega) (by omega) (Nat.le_trans B.size (below_box _ _).size) ?_; intro v' w' hown' hgrow hnil)
      have B1 : Below w.heap.size w w' := (B.trans ((below_box wr _).mono B.size)).grown hgrow (Nat.le_trans B.size (below_box _ _).size) (fun k hk => HO.out.from k hk)
      have HO1 := Lib.hid (show OwnI w' w.heap.size v' (k + 1) (fun k => (jb js k).2.2.1) by unfold OwnI; rw [vals_succ]; rw [← HC.out]; exact hown')
      clear hown' hgrow hnil
      go_roundg (gk - 1)
      case measure => have := HK.out; omega
      case rel => exact ⟨k + 1, by have := HK.out; omega, by go_num, HO1.out, B1⟩
    · obtain rfl : k = js.length := by omega
      go_wp2
      go_ret
      exact ⟨_, rfl, HO.out, B⟩

end Go.Proofs.Ytpnfbgbbmpacfaa
