/- Slices of jobs that a function has grown by itself. -/
import Derived.Test.YtocppoobcanhiabIntsB
namespace Go.Proofs.Ytocppoobcanhiab
open Go.RowKit Go.Deep

theorem jobInfo : (Try.prog.info? 61).map (fun i => (i.zero, i.size, i.bytes)) = some (some (.agg #[.int .i64 0, .int .i64 0, .int .i64 0, .int .i64 0]), 4, 32) := by kernel_rfl
def cellJ (j : J4) : Nat → Int
  | 0 => j.1
  | 1 => j.2.1
  | 2 => j.2.2.1
  | _ => j.2.2.2
def fJ (js : List J4) (m : Nat) : Int := cellJ (jb js (m / 4)) (m % 4)
/-- From block base on: a slice of its own that holds these jobs. -/
def OwnJ (w : World) (base : Nat) (v : Value) (js : List J4) : Prop := w.ownsRow base 61 4 v js.length (vals (fJ js) (js.length * 4))
theorem vals_congr {f g : Nat → Int} {n : Nat} (e : ∀ k, k < n → f k = g k) : vals f n = vals g n := by
  simp only [vals]
  exact List.map_congr_left fun k hk => by rw [e k (List.mem_range.1 hk)]
theorem vals_snocJ (js : List J4) (j : J4) : vals (fJ (js ++ [j])) ((js ++ [j]).length * 4) = vals (fJ js) (js.length * 4) ++ [.int .i64 j.1, .int .i64 j.2.1, .int .i64 j.2.2.1, .int .i64 j.2.2.2] := by
  have e : (js ++ [j]).length * 4 = js.length * 4 + 1 + 1 + 1 + 1 := by simp; omega
  rw [e, vals_succ, vals_succ, vals_succ, vals_succ]
  have h0 : ∀ c, c < 4 → fJ (js ++ [j]) (js.length * 4 + c) = cellJ j c := by
    intro c hc
    have h1 : (js.length * 4 + c) / 4 = js.length := by omega
    have h2 : (js.length * 4 + c) % 4 = c := by omega
    rw [fJ, h1, h2, jb_last]
  have hp : vals (fJ (js ++ [j])) (js.length * 4) = vals (fJ js) (js.length * 4) := vals_congr fun k hk => by rw [fJ, fJ, jb_app (by omega)]
  have z0 := h0 0 (by omega)
  rw [Nat.add_zero] at z0
  rw [hp, z0, h0 1 (by omega), show js.length * 4 + 1 + 1 = js.length * 4 + 2 from rfl, h0 2 (by omega), show js.length * 4 + 2 + 1 = js.length * 4 + 3 from rfl, h0 3 (by omega)]
  simp [cellJ]
theorem OwnJ.lt {w : World} {base : Nat} {v : Value} {js : List J4} (h : OwnJ w base v js) : ∀ k, v.ownBlock = some k → base ≤ k ∧ k < w.heap.size := World.ownsRow.lt h
theorem OwnJ.shape {w : World} {base : Nat} {v : Value} {js : List J4} (h : OwnJ w base v js) : ∃ a cap, v = .slice a js.length cap := by
  obtain ⟨_, ⟨rfl, e⟩ | ⟨g, cap, cur, rfl, _⟩⟩ := h
  · exact ⟨none, 0, by rw [e]⟩
  · exact ⟨_, _, rfl⟩
theorem OwnJ.at {w : World} {base : Nat} {v : Value} {js : List J4} (h : OwnJ w base v js) (hn : 0 < js.length) : ∃ g cap, v = .slice (some ⟨g, 0, none⟩) js.length cap ∧ base ≤ g ∧ g < w.heap.size ∧ (∀ k, w.frozen? ⟨g, k, none⟩ = false) ∧
    ∀ m, m < js.length * 4 → w.cell? ⟨g, m, none⟩ = some (.int .i64 (fJ js m)) := by
  obtain ⟨_, ⟨_, e⟩ | ⟨g, cap, cur, rfl, h3, hb, hnc, hcm, hsz, hx⟩⟩ := h
  · omega
  · have hg : g < w.heap.size := (Array.getElem?_eq_some_iff.1 hb).1
    refine ⟨g, cap, rfl, h3, hg, fun k => by simp [World.frozen?, hb], fun m hm => ?_⟩
    rw [← vals_at (fJ js) hm, ← hx, List.getElem?_take_of_lt (by omega), Array.getElem?_toList]
    simp [World.cell?, hb]
theorem OwnJ.rowJ {w : World} {base : Nat} {a : Option Addr} {cap : Nat} {js : List J4} (h : OwnJ w base (.slice a js.length cap) js) : RowJ w a js := by
  intro k hk
  obtain ⟨g, cap', e, _, hg, _, hc⟩ := h.at (by omega)
  simp only [Value.slice.injEq] at e
  have f : ∀ c, c < 4 → fJ js (k * 4 + c) = cellJ (jb js k) c := fun c hc => by
    have h1 : (k * 4 + c) / 4 = k := by omega
    have h2 : (k * 4 + c) % 4 = c := by omega
    rw [fJ, h1, h2]
  refine ⟨g, 0, e.1, hg, ?_, ?_, ?_, ?_⟩
  · rw [Nat.zero_add, hc _ (by omega)]; exact congrArg _ (congrArg _ (f 0 (by omega)))
  · rw [Nat.zero_add, hc _ (by omega)]; exact congrArg _ (congrArg _ (f 1 (by omega)))
  · rw [Nat.zero_add, hc _ (by omega)]; exact congrArg _ (congrArg _ (f 2 (by omega)))
  · rw [Nat.zero_add, hc _ (by omega)]; exact congrArg _ (congrArg _ (f 3 (by omega)))
theorem OwnJ.below {w w' : World} {base : Nat} {v : Value} {js : List J4} (h : OwnJ w base v js) (hb : Below w.heap.size w w') : OwnJ w' base v js :=
  World.ownsRow.kept h (gb_of_below hb none) (by cases e : v.ownBlock with
    | none => exact .inl rfl
    | some k => exact .inr (by simp))
theorem OwnJ.kept {w w' : World} {base : Nat} {v : Value} {js : List J4} {row : Nat} (h : OwnJ w base v js) (hg : w.grownBy w' (some row)) (hr : row < base) : OwnJ w' base v js :=
  World.ownsRow.kept h hg (by cases e : v.ownBlock with
    | none => exact .inl rfl
    | some k => exact .inr (fun h2 => by have := (h.lt k e).1; simp only [Option.some.injEq] at h2; omega))
theorem OwnJ.other {w : World} {base : Nat} {v x : Value} {js : List J4} {a : Addr} (h : OwnJ w base v js) (ha : v.ownBlock ≠ some a.block) : OwnJ (w.setCell a x) base v js := ownsRow_setCell_other h ha x
theorem OwnJ.mono {w : World} {base base' : Nat} {v : Value} {js : List J4} (h : OwnJ w base v js) (hb : base' ≤ base) : OwnJ w base' v js := by
  obtain ⟨h1, h2 | ⟨g, cap, cur, h2, h3, h4⟩⟩ := h
  · exact ⟨h1, .inl h2⟩
  · exact ⟨h1, .inr ⟨g, cap, cur, h2, Nat.le_trans hb h3, h4⟩⟩
theorem OwnJ.nil (w : World) (base : Nat) : OwnJ w base (.slice none 0 0) [] := ⟨rfl, .inl ⟨rfl, rfl⟩⟩
theorem OwnJ.empty (w : World) : OwnJ (w.alloc (.cells #[] 61)) w.heap.size (.slice (some ⟨w.heap.size, 0, none⟩) 0 0) [] :=
  ⟨rfl, .inr ⟨w.heap.size, 0, #[], rfl, Nat.le_refl _, blk_alloc_new _ _, Nat.le_refl _, by simp [maxLen], rfl, rfl⟩⟩
theorem OwnJ.push {w' : World} {base : Nat} {v' : Value} {js : List J4} {i r d e : Int} (ho : w'.ownsRow base 61 4 v' (js.length + 1) (vals (fJ js) (js.length * 4) ++ [.int .i64 i, .int .i64 r, .int .i64 d, .int .i64 e])) : OwnJ w' base v' (js ++ [(i, r, d, e)]) := by
  unfold OwnJ
  rw [vals_snocJ]
  simpa using ho
theorem news4 (w : World) (i r d e : Int) (t : TypeId) : ∀ (j : Nat) (u : Value), [Value.int .i64 i, .int .i64 r, .int .i64 d, .int .i64 e][j]? = some u → (w.alloc (.cells #[.int .i64 i, .int .i64 r, .int .i64 d, .int .i64 e] t)).cell? ((⟨w.heap.size, 0, none⟩ : Addr).add j) = some u := by
  intro j u hj
  match j, hj with
  | 0, hj => simp at hj; subst hj; simp [Addr.add, go_sem]
  | 1, hj => simp at hj; subst hj; simp [Addr.add, go_sem]
  | 2, hj => simp at hj; subst hj; simp [Addr.add, go_sem]
  | 3, hj => simp at hj; subst hj; simp [Addr.add, go_sem]
  | j + 4, hj => simp at hj
theorem one4 (i r d e : Int) : ∀ u ∈ [Value.int .i64 i, .int .i64 r, .int .i64 d, .int .i64 e], u.oneCell' = true := by
  intro u hu
  simp at hu
  rcases hu with rfl | rfl | rfl | rfl <;> rfl
/-- The job with one field turned. -/
def turnJ (j : J4) (c : Nat) (x : Int) : J4 := match c with
  | 0 => (x, j.2)
  | 1 => (j.1, x, j.2.2)
  | 2 => (j.1, j.2.1, x, j.2.2.2)
  | _ => (j.1, j.2.1, j.2.2.1, x)
theorem OwnJ.set {w : World} {base g cap k c : Nat} {js : List J4} (h : OwnJ w base (.slice (some ⟨g, 0, none⟩) js.length cap) js) (hk : k < js.length) (hc : c < 4) (x : Int) :
    OwnJ (w.setCell ⟨g, k * 4 + c, none⟩ (.int .i64 x)) base (.slice (some ⟨g, 0, none⟩) (js.set k (turnJ (jb js k) c x)).length cap) (js.set k (turnJ (jb js k) c x)) := by
  obtain ⟨h1, ⟨e, _⟩ | ⟨g', cap', cur, e, h3, hb, hnc, hcm, hsz, hx⟩⟩ := h
  · simp at e
  · simp only [Value.slice.injEq, Option.some.injEq, Addr.mk.injEq, and_true, true_and] at e
    obtain ⟨rfl, rfl⟩ := e
    have hl : (js.set k (turnJ (jb js k) c x)).length = js.length := by simp
    rw [OwnJ, hl]
    refine ⟨by rw [vals_len], .inr ⟨g, cap, cur.setIfInBounds (k * 4 + c) (.int .i64 x), rfl, h3, ?_, hnc, hcm, by simpa using hsz, ?_⟩⟩
    · simp [World.setCell, Array.getElem?_modify, hb]
    · have e2 : vals (fJ (js.set k (turnJ (jb js k) c x))) (js.length * 4) = vals (fun m => if m = k * 4 + c then x else fJ js m) (js.length * 4) := vals_congr fun m hm => by
        simp only [fJ]
        rw [jb_set hk]
        by_cases e : k = m / 4
        · rw [if_pos e]
          by_cases e3 : m % 4 = c
          · have e4 : m = k * 4 + c := by omega
            rw [if_pos e4, e3]
            match c, hc with
            | 0, _ => rfl
            | 1, _ => rfl
            | 2, _ => rfl
            | 3, _ => rfl
          · rw [if_neg (by omega), ← e]
            have h4 : m % 4 < 4 := Nat.mod_lt _ (by omega)
            generalize m % 4 = d at e3 h4
            match c, d, hc, h4, e3 with
            | 0, 0, _, _, h => exact absurd rfl h
            | 0, 1, _, _, _ => rfl
            | 0, 2, _, _, _ => rfl
            | 0, 3, _, _, _ => rfl
            | 1, 0, _, _, _ => rfl
            | 1, 1, _, _, h => exact absurd rfl h
            | 1, 2, _, _, _ => rfl
            | 1, 3, _, _, _ => rfl
            | 2, 0, _, _, _ => rfl
            | 2, 1, _, _, _ => rfl
            | 2, 2, _, _, h => exact absurd rfl h
            | 2, 3, _, _, _ => rfl
            | 3, 0, _, _, _ => rfl
            | 3, 1, _, _, _ => rfl
            | 3, 2, _, _, _ => rfl
            | 3, 3, _, _, h => exact absurd rfl h
        · rw [if_neg e, if_neg (by omega)]
      rw [e2, ← vals_set (fJ js) (js.length * 4) (k * 4 + c) x (by omega), ← hx, Array.toList_setIfInBounds, List.take_set]
theorem OwnJ.cap_le {w : World} {base : Nat} {a : Option Addr} {n cap : Nat} {js : List J4} (h : OwnJ w base (.slice a n cap) js) : n ≤ cap ∧ cap ≤ maxLen := by
  obtain ⟨_, ⟨e, _⟩ | ⟨g, cap', cur, e, _, _, h1, h2, _⟩⟩ := h
  · simp only [Value.slice.injEq] at e
    obtain ⟨_, rfl, rfl⟩ := e
    exact ⟨Nat.le_refl _, by simp [maxLen]⟩
  · simp only [Value.slice.injEq] at e
    obtain ⟨_, rfl, rfl⟩ := e
    exact ⟨h1, h2⟩

end Go.Proofs.Ytocppoobcanhiab
