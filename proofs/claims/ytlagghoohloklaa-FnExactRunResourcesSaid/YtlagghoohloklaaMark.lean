/- Contracts of laws.markJobS and laws.heldJobS: writing and reading marks in a slice of one's own. Conditions: at most 2^20 jobs. -/
import Derived.Test.YtlagghoohloklaaCopyJ
import Derived.Test.YtlagghoohloklaaRead
import Derived.Test.YtlagghoohloklaaMarkT
import Derived.Deep.OwnRows
namespace Go.Proofs.Ytlagghoohloklaa
open Go.RowKit Go.Deep

/-- A slice of n jobs of its own whose cells are f. -/
def OwnFJ (w : World) (base : Nat) (v : Value) (n : Nat) (f : Nat → Int) : Prop := w.ownsRow base 41 4 v n (vals f (n * 4))
theorem OwnJ.ownF {w : World} {base : Nat} {v : Value} {js : List J4} (h : OwnJ w base v js) : OwnFJ w base v js.length (fJ js) := h
theorem OwnFJ.at {w : World} {base : Nat} {v : Value} {n : Nat} {f : Nat → Int} (h : OwnFJ w base v n f) (hn : 0 < n) : ∃ g cap, v = .slice (some ⟨g, 0, none⟩) n cap ∧ base ≤ g ∧ g < w.heap.size ∧ (∀ k, w.frozen? ⟨g, k, none⟩ = false) ∧
    ∀ m, m < n * 4 → w.cell? ⟨g, m, none⟩ = some (.int .i64 (f m)) := by
  obtain ⟨_, ⟨_, e⟩ | ⟨g, cap, cur, rfl, h3, hb, hnc, hcm, hsz, hx⟩⟩ := h
  · omega
  · have hg : g < w.heap.size := (Array.getElem?_eq_some_iff.1 hb).1
    refine ⟨g, cap, rfl, h3, hg, fun k => by simp [World.frozen?, hb], fun m hm => ?_⟩
    rw [← vals_at f hm, ← hx, List.getElem?_take_of_lt (by omega), Array.getElem?_toList]
    simp [World.cell?, hb]
theorem OwnFJ.set {w : World} {base g n cap m : Nat} {f : Nat → Int} (h : OwnFJ w base (.slice (some ⟨g, 0, none⟩) n cap) n f) (hm : m < n * 4) (x : Int) :
    OwnFJ (w.setCell ⟨g, m, none⟩ (.int .i64 x)) base (.slice (some ⟨g, 0, none⟩) n cap) n (fun j => if j = m then x else f j) := by
  obtain ⟨h1, ⟨e, _⟩ | ⟨g', cap', cur, e, h3, hb, hnc, hcm, hsz, hx⟩⟩ := h
  · simp at e
  · simp only [Value.slice.injEq, Option.some.injEq, Addr.mk.injEq, and_true, true_and] at e
    obtain ⟨rfl, rfl⟩ := e
    refine ⟨by rw [vals_len], .inr ⟨g, cap, cur.setIfInBounds m (.int .i64 x), rfl, h3, ?_, hnc, hcm, by simpa using hsz, ?_⟩⟩
    · simp [World.setCell, Array.getElem?_modify, hb]
    · rw [← vals_set f (n * 4) m x hm, ← hx, Array.toList_setIfInBounds, List.take_set]
theorem OwnFJ.congr {w : World} {base n : Nat} {v : Value} {f g : Nat → Int} (h : OwnFJ w base v n f) (e : ∀ m, m < n * 4 → f m = g m) : OwnFJ w base v n g := by
  unfold OwnFJ at h ⊢
  rwa [← vals_congr e]
theorem OwnFJ.below {w w' : World} {base n : Nat} {v : Value} {f : Nat → Int} (h : OwnFJ w base v n f) (hb : Below w.heap.size w w') : OwnFJ w' base v n f :=
  World.ownsRow.kept h (gb_of_below hb none) (by cases e : v.ownBlock with
    | none => exact .inl rfl
    | some k => exact .inr (by simp))
/-- the marks so far -/
def mkF (f : Nat → Int) (k : Int) (i : Nat) : Nat → Int := fun m => if m < i * 4 then k + m else f m

theorem mark4 {w wr : World} {base g n cap i : Nat} {f : Nat → Int} {k : Int} (ho : OwnFJ wr base (.slice (some ⟨g, 0, none⟩) n cap) n (mkF f k i)) (hg : w.grownBy wr (some g)) (hi : i < n) :
    OwnFJ ((((wr.setCell ⟨g, i * 4, none⟩ (.int .i64 (k + 4 * i))).setCell ⟨g, i * 4 + 1, none⟩ (.int .i64 (k + 4 * i + 1))).setCell ⟨g, i * 4 + 2, none⟩ (.int .i64 (k + 4 * i + 1 + 1))).setCell ⟨g, i * 4 + 3, none⟩ (.int .i64 (k + 4 * i + 1 + 1 + 1))) base (.slice (some ⟨g, 0, none⟩) n cap) n (mkF f k (i + 1)) ∧
    w.grownBy ((((wr.setCell ⟨g, i * 4, none⟩ (.int .i64 (k + 4 * i))).setCell ⟨g, i * 4 + 1, none⟩ (.int .i64 (k + 4 * i + 1))).setCell ⟨g, i * 4 + 2, none⟩ (.int .i64 (k + 4 * i + 1 + 1))).setCell ⟨g, i * 4 + 3, none⟩ (.int .i64 (k + 4 * i + 1 + 1 + 1))) (some g) := by
  have s0 := ho.set (m := i * 4) (by omega) (k + 4 * i)
  have s1 := s0.set (m := i * 4 + 1) (by omega) (k + 4 * i + 1)
  have s2 := s1.set (m := i * 4 + 2) (by omega) (k + 4 * i + 1 + 1)
  have s3 := s2.set (m := i * 4 + 3) (by omega) (k + 4 * i + 1 + 1 + 1)
  have g0 := gb_set hg (p := ⟨g, i * 4, none⟩) (.inl rfl) (.int .i64 (k + 4 * i))
  have g1 := gb_set g0 (p := ⟨g, i * 4 + 1, none⟩) (.inl rfl) (.int .i64 (k + 4 * i + 1))
  have g2 := gb_set g1 (p := ⟨g, i * 4 + 2, none⟩) (.inl rfl) (.int .i64 (k + 4 * i + 1 + 1))
  have g3 := gb_set g2 (p := ⟨g, i * 4 + 3, none⟩) (.inl rfl) (.int .i64 (k + 4 * i + 1 + 1 + 1))
  refine ⟨s3.congr fun m _ => ?_, g3⟩
  simp only [mkF]
  by_cases e3 : m = i * 4 + 3
  · rw [if_pos e3, if_pos (by omega), e3]; omega
  · by_cases e2 : m = i * 4 + 2
    · rw [if_neg e3, if_pos e2, if_pos (by omega), e2]; omega
    · by_cases e1 : m = i * 4 + 1
      · rw [if_neg e3, if_neg e2, if_pos e1, if_pos (by omega), e1]; omega
      · by_cases e0 : m = i * 4
        · rw [if_neg e3, if_neg e2, if_neg e1, if_pos e0, if_pos (by omega), e0]; omega
        · rw [if_neg e3, if_neg e2, if_neg e1, if_neg e0]
          by_cases h : m < i * 4
          · rw [if_pos h, if_pos (by omega)]
          · rw [if_neg h, if_neg (by omega)]

set_option maxHeartbeats 2000000 in
/-- laws.markJobS. -/
theorem markJobS_any (a : Option Addr) (cap n : Nat) (f : Nat → Int) (k : Nat) (base : Nat) (w : World) (h : OwnFJ w base (.slice a n cap) n f) (hn : n ≤ 1048576) (hk : k ≤ 100000000) :
    Calls Try.prog 38 #[.slice a n cap, .int .i64 (k : Int)] w fun e w' =>
      e = .returned (.int .i64 ((k : Int) + 4 * n)) ∧ OwnFJ w' base (.slice a n cap) n (fun m => (k : Int) + m) ∧ w.grownBy w' (Value.slice a n cap).ownBlock := by
  have HO := Lib.hid h
  clear h
  go_enter Try.func38, Try.ntmps38
  go_wp2
  go_loopg [1, 5] n (fun m s z wr => ∃ i : Nat, m + i = n ∧ z = .int .i64 i ∧ s = .int .i64 ((k : Int) + 4 * i) ∧ OwnFJ wr base (.slice a n cap) n (mkF f k i) ∧ w.grownBy wr (Value.slice a n cap).ownBlock)
  case atStart => exact ⟨0, by omega, rfl, by simp, HO.out.congr (fun m _ => by simp [mkF]), World.grownBy.refl _ _⟩
  case round =>
    clear HO
    obtain ⟨i, hi, rfl, rfl, ho, hg⟩ := hrel
    have HI := Lib.hid hi
    have HO := Lib.hid ho
    have HG := Lib.hid hg
    have hii : i ≤ n := by omega
    clear hi ho hg
    by_cases hlt : i < n
    · obtain ⟨g, cap', e', hgb, hgl, zf, yc⟩ := HO.out.at (by omega)
      simp only [Value.slice.injEq] at e'
      obtain ⟨rfl, _, rfl⟩ := e'
      have x0 := yc (i * 4) (by omega)
      have x1 := yc (i * 4 + 1) (by omega)
      have x2 := yc (i * 4 + 2) (by omega)
      have x3 := yc (i * 4 + 3) (by omega)
      have z0 := zf (i * 4)
      have z1 := zf (i * 4 + 1)
      have z2 := zf (i * 4 + 2)
      have z3 := zf (i * 4 + 3)
      have hi0 : (0 : Int) ≤ i := by omega
      have hi1 : (i : Int) < n := by omega
      clear zf yc
      go_wp2
      go_roundg (gk - 1)
      case measure => have := HI.out; omega
      case rel =>
        have M4 := mark4 HO.out HG.out hlt
        exact ⟨i + 1, by have := HI.out; omega, by go_num, by go_num, M4.1, M4.2⟩
    · obtain rfl : i = n := by omega
      go_wp2
      go_ret
      exact ⟨rfl, HO.out.congr (fun m hm => by simp only [mkF]; rw [if_pos hm]), HG.out⟩

end Go.Proofs.Ytlagghoohloklaa
