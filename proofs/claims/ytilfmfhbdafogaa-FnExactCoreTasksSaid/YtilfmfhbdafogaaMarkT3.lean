/- Contracts of laws.markTaskS, what it writes too, and of laws.heldTaskS; what the exact walk of CoreTasks keeps. Conditions: at most 2^20 tasks. -/
import Derived.Test.YtilfmfhbdafogaaExactXB
namespace Go.Proofs.Ytilfmfhbdafogaa
open Go.RowKit Go.Deep

/-- A slice of n tasks of its own whose cells are f. -/
def OwnFT (w : World) (base : Nat) (v : Value) (n : Nat) (f : Nat → Int) : Prop := w.ownsRow base 44 3 v n (vals f (n * 3))
theorem OwnFT.at {w : World} {base : Nat} {v : Value} {n : Nat} {f : Nat → Int} (h : OwnFT w base v n f) (hn : 0 < n) : ∃ g cap, v = .slice (some ⟨g, 0, none⟩) n cap ∧ base ≤ g ∧ g < w.heap.size ∧ (∀ k, w.frozen? ⟨g, k, none⟩ = false) ∧
    ∀ m, m < n * 3 → w.cell? ⟨g, m, none⟩ = some (.int .i64 (f m)) := by
  obtain ⟨_, ⟨_, e⟩ | ⟨g, cap, cur, rfl, h3, hb, hnc, hcm, hsz, hx⟩⟩ := h
  · omega
  · have hg : g < w.heap.size := (Array.getElem?_eq_some_iff.1 hb).1
    refine ⟨g, cap, rfl, h3, hg, fun k => by simp [World.frozen?, hb], fun m hm => ?_⟩
    rw [← vals_at f hm, ← hx, List.getElem?_take_of_lt (by omega), Array.getElem?_toList]
    simp [World.cell?, hb]
theorem OwnFT.set {w : World} {base g n cap m : Nat} {f : Nat → Int} (h : OwnFT w base (.slice (some ⟨g, 0, none⟩) n cap) n f) (hm : m < n * 3) (x : Int) :
    OwnFT (w.setCell ⟨g, m, none⟩ (.int .i64 x)) base (.slice (some ⟨g, 0, none⟩) n cap) n (fun j => if j = m then x else f j) := by
  obtain ⟨h1, ⟨e, _⟩ | ⟨g', cap', cur, e, h3, hb, hnc, hcm, hsz, hx⟩⟩ := h
  · simp at e
  · simp only [Value.slice.injEq, Option.some.injEq, Addr.mk.injEq, and_true, true_and] at e
    obtain ⟨rfl, rfl⟩ := e
    refine ⟨by rw [vals_len], .inr ⟨g, cap, cur.setIfInBounds m (.int .i64 x), rfl, h3, ?_, hnc, hcm, by simpa using hsz, ?_⟩⟩
    · simp [World.setCell, Array.getElem?_modify, hb]
    · rw [← vals_set f (n * 3) m x hm, ← hx, Array.toList_setIfInBounds, List.take_set]
theorem OwnFT.congr {w : World} {base n : Nat} {v : Value} {f g : Nat → Int} (h : OwnFT w base v n f) (e : ∀ m, m < n * 3 → f m = g m) : OwnFT w base v n g := by
  unfold OwnFT at h ⊢
  rwa [← valsP_congr e]
theorem OwnFT.below {w w' : World} {base n : Nat} {v : Value} {f : Nat → Int} (h : OwnFT w base v n f) (hb : Below w.heap.size w w') : OwnFT w' base v n f :=
  World.ownsRow.kept h (gb_of_below hb none) (by cases e : v.ownBlock with
    | none => exact .inl rfl
    | some k => exact .inr (by simp))
def fT (ts : List T3) : Nat → Int := fun m => if m % 3 = 0 then (tk ts (m / 3)).1 else if m % 3 = 1 then (tk ts (m / 3)).2.1 else (tk ts (m / 3)).2.2
theorem fT0 (ts : List T3) (q : Nat) : fT ts (q * 3) = (tk ts q).1 := by unfold fT; rw [if_pos (by omega), show q * 3 / 3 = q by omega]
theorem fT1 (ts : List T3) (q : Nat) : fT ts (q * 3 + 1) = (tk ts q).2.1 := by unfold fT; rw [if_neg (by omega), if_pos (by omega), show (q * 3 + 1) / 3 = q by omega]
theorem fT2 (ts : List T3) (q : Nat) : fT ts (q * 3 + 2) = (tk ts q).2.2 := by unfold fT; rw [if_neg (by omega), if_neg (by omega), show (q * 3 + 2) / 3 = q by omega]
theorem flatT_len : ∀ ts : List T3, (flat ts).length = ts.length * 3
  | [] => rfl
  | t :: ts => by
    have := flatT_len ts
    unfold flat at this ⊢
    simp only [List.flatMap_cons, List.length_append, List.length_cons, List.length_nil] at this ⊢
    omega
theorem flat_vals (ts : List T3) : flat ts = vals (fT ts) (ts.length * 3) := by
  apply List.ext_getElem?
  intro m
  by_cases hm : m < ts.length * 3
  · rw [vals_at _ hm]
    have hk : m / 3 < ts.length := by omega
    obtain ⟨h0, h1, h2⟩ := flat_at ts (m / 3) (tk ts (m / 3)) (by rw [List.getElem?_eq_getElem hk]; simp [tk, hk])
    rw [← fT0] at h0
    rw [← fT1] at h1
    rw [← fT2] at h2
    rcases (show m = m / 3 * 3 ∨ m = m / 3 * 3 + 1 ∨ m = m / 3 * 3 + 2 by omega) with e | e | e
    · rw [← e] at h0; exact h0
    · rw [← e] at h1; exact h1
    · rw [← e] at h2; exact h2
  · rw [List.getElem?_eq_none (by rw [flatT_len]; omega), List.getElem?_eq_none (by rw [vals_len]; omega)]
theorem Own.ownFT {w : World} {base : Nat} {v : Value} {ts : List T3} (h : Own w base v ts) : OwnFT w base v ts.length (fT ts) := by
  unfold Own at h
  unfold OwnFT
  rwa [← flat_vals]
theorem OwnFT.own {w : World} {base : Nat} {v : Value} {ts : List T3} (h : OwnFT w base v ts.length (fT ts)) : Own w base v ts := by
  unfold OwnFT at h
  unfold Own
  rwa [flat_vals]
theorem OwnFT.lt {w : World} {base n : Nat} {v : Value} {f : Nat → Int} (h : OwnFT w base v n f) : ∀ k, v.ownBlock = some k → base ≤ k ∧ k < w.heap.size := World.ownsRow.lt h
theorem OwnFT.keep {w w' : World} {base n : Nat} {v : Value} {f : Nat → Int} (h : OwnFT w base v n f) (e : ∀ k, v.ownBlock = some k → w'.heap[k]? = w.heap[k]?) : OwnFT w' base v n f := by
  obtain ⟨h1, h2 | ⟨g, cap, cur, rfl, h3, h4, h5⟩⟩ := h
  · exact ⟨h1, .inl h2⟩
  · exact ⟨h1, .inr ⟨g, cap, cur, rfl, h3, (e g rfl).trans h4, h5⟩⟩
theorem own_keepT {w w' : World} {base : Nat} {v : Value} {ts : List T3} (h : Own w base v ts) (e : ∀ k, v.ownBlock = some k → w'.heap[k]? = w.heap[k]?) : Own w' base v ts := (OwnFT.keep h.ownFT e).own
/-- the marks so far -/
def mkT (f : Nat → Int) (k : Int) (i : Nat) : Nat → Int := fun m => if m < i * 3 then k + m else f m
theorem mark3 {w wr : World} {base g n cap i : Nat} {f : Nat → Int} {k : Int} (ho : OwnFT wr base (.slice (some ⟨g, 0, none⟩) n cap) n (mkT f k i)) (hg : w.grownBy wr (some g)) (hi : i < n) :
    OwnFT (((wr.setCell ⟨g, i * 3, none⟩ (.int .i64 (k + 3 * i))).setCell ⟨g, i * 3 + 1, none⟩ (.int .i64 (k + 3 * i + 1))).setCell ⟨g, i * 3 + 2, none⟩ (.int .i64 (k + 3 * i + 1 + 1))) base (.slice (some ⟨g, 0, none⟩) n cap) n (mkT f k (i + 1)) ∧
    w.grownBy (((wr.setCell ⟨g, i * 3, none⟩ (.int .i64 (k + 3 * i))).setCell ⟨g, i * 3 + 1, none⟩ (.int .i64 (k + 3 * i + 1))).setCell ⟨g, i * 3 + 2, none⟩ (.int .i64 (k + 3 * i + 1 + 1))) (some g) := by
  have s0 := ho.set (m := i * 3) (by omega) (k + 3 * i)
  have s1 := s0.set (m := i * 3 + 1) (by omega) (k + 3 * i + 1)
  have s2 := s1.set (m := i * 3 + 2) (by omega) (k + 3 * i + 1 + 1)
  have g0 := gb_set hg (p := ⟨g, i * 3, none⟩) (.inl rfl) (.int .i64 (k + 3 * i))
  have g1 := gb_set g0 (p := ⟨g, i * 3 + 1, none⟩) (.inl rfl) (.int .i64 (k + 3 * i + 1))
  have g2 := gb_set g1 (p := ⟨g, i * 3 + 2, none⟩) (.inl rfl) (.int .i64 (k + 3 * i + 1 + 1))
  refine ⟨s2.congr fun m _ => ?_, g2⟩
  simp only [mkT]
  by_cases e2 : m = i * 3 + 2
  · rw [if_pos e2, if_pos (by omega), e2]; omega
  · by_cases e1 : m = i * 3 + 1
    · rw [if_neg e2, if_pos e1, if_pos (by omega), e1]; omega
    · by_cases e0 : m = i * 3
      · rw [if_neg e2, if_neg e1, if_pos e0, if_pos (by omega), e0]; omega
      · rw [if_neg e2, if_neg e1, if_neg e0]
        by_cases h : m < i * 3
        · rw [if_pos h, if_pos (by omega)]
        · rw [if_neg h, if_neg (by omega)]

set_option maxHeartbeats 2000000 in
/-- laws.markTaskS, of a slice of one's own. -/
theorem markTaskF_any (a : Option Addr) (cap n : Nat) (f : Nat → Int) (k : Nat) (base : Nat) (w : World) (h : OwnFT w base (.slice a n cap) n f) (hn : n ≤ 1048576) (hk : k ≤ 100000000) :
    Calls Try.prog 18 #[.slice a n cap, .int .i64 (k : Int)] w fun e w' =>
      e = .returned (.int .i64 ((k : Int) + 3 * n)) ∧ OwnFT w' base (.slice a n cap) n (fun m => (k : Int) + m) ∧ w.grownBy w' (Value.slice a n cap).ownBlock := by
  have HO := Lib.hid h
  clear h
  go_enter Try.func18, Try.ntmps18
  go_wp2
  go_loopg [1, 5] n (fun m s z wr => ∃ i : Nat, m + i = n ∧ z = .int .i64 i ∧ s = .int .i64 ((k : Int) + 3 * i) ∧ OwnFT wr base (.slice a n cap) n (mkT f k i) ∧ w.grownBy wr (Value.slice a n cap).ownBlock)
  case atStart => exact ⟨0, by omega, rfl, by simp, HO.out.congr (fun m _ => by simp [mkT]), World.grownBy.refl _ _⟩
  case round =>
    clear HO
    obtain ⟨i, hi, rfl, rfl, ho, hg⟩ := hrel
    have HI := Lib.hid hi
    have HO := Lib.hid ho
    have HG := Lib.hid hg
    have hii : i ≤ n := by omega
    clear hi ho hg
    by_cases hlt : i < n
    · obtain ⟨g, cap', e', hgb, hgl, zf, yc⟩ := HO.out.at (by omega)
      simp only [Value.slice.injEq] at e'
      obtain ⟨rfl, _, rfl⟩ := e'
      have x0 := yc (i * 3) (by omega)
      have x1 := yc (i * 3 + 1) (by omega)
      have x2 := yc (i * 3 + 2) (by omega)
      have z0 := zf (i * 3)
      have z1 := zf (i * 3 + 1)
      have z2 := zf (i * 3 + 2)
      have hi0 : (0 : Int) ≤ i := by omega
      have hi1 : (i : Int) < n := by omega
      clear zf yc
      go_wp2
      go_roundg (gk - 1)
      case measure => have := HI.out; omega
      case rel =>
        have M3 := mark3 HO.out HG.out hlt
        exact ⟨i + 1, by have := HI.out; omega, by go_num, by go_num, M3.1, M3.2⟩
    · obtain rfl : i = n := by omega
      go_wp2
      go_ret
      exact ⟨rfl, HO.out.congr (fun m hm => by simp only [mkT]; rw [if_pos hm]), HG.out⟩

/-- laws.heldTaskS, where the marks are held. -/
theorem heldTaskF_any (a : Option Addr) (cap n : Nat) (k : Nat) (base : Nat) (w : World) (h : OwnFT w base (.slice a n cap) n (fun m => (k : Int) + m)) (hn : n ≤ 1048576) (hk : k ≤ 100000000) :
    Calls Try.prog 20 #[.slice a n cap, .int .i64 (k : Int)] w fun e w' =>
      e = .returned (.int .i64 ((k : Int) + 3 * n)) ∧ ∃ l, w' = w.drewN l := by
  have HO := Lib.hid h
  clear h
  go_enter Try.func20, Try.ntmps20
  go_wp2
  go_loopg [1, 5] n (fun m s z wr => ∃ i l : Nat, m + i = n ∧ z = .int .i64 i ∧ s = .int .i64 ((k : Int) + 3 * i) ∧ wr = w.drewN l)
  case atStart => exact ⟨0, 0, by omega, rfl, by simp, rfl⟩
  case round =>
    obtain ⟨i, l, hi, rfl, rfl, rfl⟩ := hrel
    have HI := Lib.hid hi
    have hii : i ≤ n := by omega
    clear hi
    by_cases hlt : i < n
    · obtain ⟨g, cap', e', hgb, hgl, zf, yc⟩ := HO.out.at (by omega)
      simp only [Value.slice.injEq] at e'
      obtain ⟨rfl, _, rfl⟩ := e'
      have x0 : w.cell? ⟨g, i * 3, none⟩ = some (.int .i64 ((k : Int) + 3 * i)) := by rw [yc _ (by omega)]; congr 2; omega
      have x1 : w.cell? ⟨g, i * 3 + 1, none⟩ = some (.int .i64 ((k : Int) + 3 * i + 1)) := by rw [yc _ (by omega)]; congr 2; omega
      have x2 : w.cell? ⟨g, i * 3 + 2, none⟩ = some (.int .i64 ((k : Int) + 3 * i + 1 + 1)) := by rw [yc _ (by omega)]; congr 2; omega
      have hi0 : (0 : Int) ≤ i := by omega
      have hi1 : (i : Int) < n := by omega
      clear zf yc
      go_wp2
      go_roundg (gk - 1)
      case measure => have := HI.out; omega
      case rel => exact ⟨i + 1, l, by have := HI.out; omega, by go_num, by go_num, rfl⟩
    · obtain rfl : i = n := by omega
      go_wp2
      go_ret
      exact ⟨rfl, l, rfl⟩

/-- The reference's answer v0 lies below block b0, the program's answer vg from block bg on; the copies of the arguments lie between. -/
structure XT (w W : World) (b0 bg : Nat) (L : List T3) (v0 vg : Value) (h : Nat → Int) : Prop where
  o0 : Own W w.heap.size v0 L
  l0 : ∀ k, v0.ownBlock = some k → k < b0
  og : OwnFT W bg vg L.length h
  bl : Below w.heap.size w W
  e0 : w.heap.size ≤ b0
  e1 : b0 ≤ bg
variable {w W W' : World} {b0 bg : Nat} {L : List T3} {v0 vg : Value} {h : Nat → Int}
theorem ownT_lt {base : Nat} {v : Value} (h : Own W base v L) : ∀ k, v.ownBlock = some k → base ≤ k ∧ k < W.heap.size := World.ownsRow.lt h
theorem XT.below (x : XT w W b0 bg L v0 vg h) (hb : Below W.heap.size W W') : XT w W' b0 bg L v0 vg h :=
  ⟨own_belowT x.o0 hb, x.l0, x.og.below hb, x.bl.trans (hb.mono x.bl.size), x.e0, x.e1⟩
theorem XT.mark {row : Option Nat} (x : XT w W b0 bg L v0 vg h) (hg : W.grownBy W' row) (hr : ∀ k, row = some k → b0 ≤ k ∧ k < bg) : XT w W' b0 bg L v0 vg h :=
  ⟨own_keepT x.o0 fun k hk => hg.block k (ownT_lt x.o0 k hk).2 (fun e => by have := hr k e.symm; have := x.l0 k hk; omega), x.l0, x.og.keep fun k hk => hg.block k (x.og.lt k hk).2 (fun e => by have := hr k e.symm; have := (x.og.lt k hk).1; omega),
    x.bl.grown hg x.bl.size fun k hk => by have := hr k hk; have := x.e0; omega, x.e0, x.e1⟩
theorem XT.own {h' : Nat → Int} (x : XT w W b0 bg L v0 vg h) (hg : W.grownBy W' vg.ownBlock) (o : OwnFT W' bg vg L.length h') : XT w W' b0 bg L v0 vg h' :=
  ⟨own_keepT x.o0 fun k hk => hg.block k (ownT_lt x.o0 k hk).2 (fun e => by have := (x.og.lt k e.symm).1; have := x.l0 k hk; have := x.e1; omega), x.l0, o,
    x.bl.grown hg x.bl.size fun k hk => by have := (x.og.lt k hk).1; have := x.e0; have := x.e1; omega, x.e0, x.e1⟩
theorem own_rowT {base n cap : Nat} {a : Option Addr} (h : Own W base (.slice a n cap) L) : Row W a L := by
  obtain ⟨a', c', e, hr, _, _⟩ := h.row
  simp only [Value.slice.injEq] at e
  obtain ⟨rfl, _, _⟩ := e
  exact hr

end Go.Proofs.Ytilfmfhbdafogaa
