/- Slices of sections that are made or copied: make([]impl.Section, n), append([]impl.Section{}, sections...). No function is walked. No condition beyond those that each theorem names. -/
import Derived.Test.YtfacohicfcdamaaDrawSec
import Derived.Test.YtfacohicfcdamaaWithout
namespace Go.Proofs.Ytfacohicfcdamaa
open Go.RowKit Go.Deep

theorem run_make_secs (n : Nat) (hn : n ≤ 1048576) (w : World) :
    (Instr.makeSlice 29 (.int .i64 (n : Int)) (.int .i64 (n : Int))).run Try.prog w = .ok (.slice (some ⟨w.heap.size, 0, none⟩) n n) (w.alloc (.cells (madeCells #[.int .i64 0, .int .i64 0, .int .i64 0] (n * 3)) 48)) := by
  obtain ⟨i, hi, hz, hs, hb⟩ := info_parts secInfo
  have h := run_make (P := Try.prog) w 29 48 i _ Try.underlying29 hi hz .i64 .i64 (n : Int) (n : Int) (by omega) (by omega) (by rw [hb]; omega) (by omega)
  rw [hs] at h
  simpa [Value.cells] using h
theorem row_zs (w : World) (n : Nat) : Row (w.alloc (.cells (madeCells #[.int .i64 0, .int .i64 0, .int .i64 0] (n * 3)) 48)) (some ⟨w.heap.size, 0, none⟩) (zs n) := by
  intro k t hk
  have hkn : k < n := by
    have := (List.getElem?_eq_some_iff.1 hk).1
    simpa [zs] using this
  have ht : t = (0, 0, 0) := by
    unfold zs at hk
    exact List.eq_of_mem_replicate (List.mem_of_getElem? hk)
  subst ht
  have hc : ∀ j, j < n * 3 → (w.alloc (.cells (madeCells #[.int .i64 0, .int .i64 0, .int .i64 0] (n * 3)) 48)).cell? ⟨w.heap.size, j, none⟩ = some (.int .i64 0) := fun j hj => by
    have h : j % 3 = 0 ∨ j % 3 = 1 ∨ j % 3 = 2 := by omega
    rcases h with h | h | h <;> simp [go_sem, madeCells, hj, h]
  refine ⟨w.heap.size, 0, rfl, by simp, ?_, ?_, ?_⟩
  · rw [Nat.zero_add]; exact hc _ (by omega)
  · rw [Nat.zero_add]; exact hc _ (by omega)
  · rw [Nat.zero_add]; exact hc _ (by omega)
theorem zs_len (n : Nat) : (zs n).length = n := by simp [zs]
theorem Own3.news {w : World} {base g n cap : Nat} {ss : List T3} (h : Own3 w base (.slice (some ⟨g, 0, none⟩) n cap) ss) (o : Obj) : ∀ (j : Nat) (u : Value), (flat ss)[j]? = some u → (w.alloc o).cell? ((⟨g, 0, none⟩ : Addr).add j) = some u := by
  intro j u hj
  obtain ⟨_, ⟨e, _⟩ | ⟨g', cap', cur, e, h3, hb, hnc, hcm, hsz, hx⟩⟩ := h
  · simp at e
  · simp only [Value.slice.injEq, Option.some.injEq, Addr.mk.injEq, and_true] at e
    obtain ⟨rfl, _⟩ := e
    have hg : g < w.heap.size := (Array.getElem?_eq_some_iff.1 hb).1
    have hl : j < ss.length * 3 := by rw [← flat_length]; exact (List.getElem?_eq_some_iff.1 hj).1
    rw [← hx, List.getElem?_take_of_lt hl, Array.getElem?_toList] at hj
    have hc : w.cell? ⟨g, j, none⟩ = some u := by simp [World.cell?, hb, hj]
    have := ((below_box w o).cell (p := ⟨g, j, none⟩) hg).trans hc
    rw [addr_add, Nat.zero_add]
    exact this
theorem own_emptyS (w : World) : (w.alloc (.cells #[] 48)).ownsRow w.heap.size 48 3 (.slice (some ⟨w.heap.size, 0, none⟩) 0 0) 0 [] := Own3.empty w
/-- A copy in new memory. -/
theorem copiedS {w wx : World} {v : Value} {ss : List T3} (ho : wx.ownsRow w.heap.size 48 3 v (0 + ss.length) ([] ++ flat ss)) (hg : (w.alloc (.cells #[] 48)).grownBy wx (Value.ownBlock (.slice (some ⟨w.heap.size, 0, none⟩) 0 0)))
    (hnil : v = .slice none 0 0 ↔ (Value.slice (some ⟨w.heap.size, 0, none⟩) 0 0 = .slice none 0 0 ∧ ss.length = 0)) :
    ∃ g cap, v = .slice (some ⟨g, 0, none⟩) ss.length cap ∧ w.heap.size ≤ g ∧ g < wx.heap.size ∧ Own3 wx w.heap.size (.slice (some ⟨g, 0, none⟩) ss.length cap) ss ∧ Below w.heap.size w wx := by
  have hown : Own3 wx w.heap.size v ss := by
    unfold Own3
    simpa using ho
  have hn : v ≠ .slice none 0 0 := fun e => by have := (hnil.1 e).1; simp at this
  obtain ⟨g, cap, rfl⟩ : ∃ g cap, v = .slice (some ⟨g, 0, none⟩) ss.length cap := by
    obtain ⟨_, ⟨rfl, _⟩ | ⟨g, cap, cur, rfl, _⟩⟩ := hown
    · exact absurd rfl hn
    · exact ⟨g, cap, rfl⟩
  exact ⟨g, cap, rfl, (hown.lt g rfl).1, (hown.lt g rfl).2, hown, (below_box _ _).grown hg (by simp) (by simp [Value.ownBlock])⟩

end Go.Proofs.Ytfacohicfcdamaa
