/- Slices of strings in memory: what it means that such a slice is held or owned, that it survives other steps, that a string is laid behind it. No function is walked but append and make. No condition beyond those that each theorem names. -/
import Derived.Test.YtdgihkmiolnglaaGreatDoorMem
import Derived.Test.YtdgihkmiolnglaaGreatDoorTxt
import Derived.Laws.Concat
import Derived.Laws.DeepStrings4
namespace Go.Proofs.YtdgihkmiolnglaaGreatDoor
open Go.RowKit Go.Deep

theorem strInfo : (Tryz.prog.info? 9).map (fun i => (i.zero, i.size, i.bytes)) = some (some (.string ByteArray.empty), 1, 16) := by kernel_rfl
def sv (l : List UInt8) : Value := .string (bs l)
def svals (ls : List (List UInt8)) : List Value := ls.map sv
theorem svals_len (ls : List (List UInt8)) : (svals ls).length = ls.length := by simp [svals]
/-- The line at a place. -/
def ln (ls : List (List UInt8)) (i : Nat) : List UInt8 := ls.getD i []
theorem ln_get {ls : List (List UInt8)} {i : Nat} (h : i < ls.length) : ln ls i = ls[i]'h := by simp [ln, List.getD_eq_getElem?_getD, h]
theorem svals_at {ls : List (List UInt8)} {i : Nat} (h : i < ls.length) : (svals ls)[i]? = some (sv (ln ls i)) := by rw [ln_get h]; simp [svals, h]
/-- The cells behind a hold the lines. -/
def RowL (w : World) (a : Option Addr) (ls : List (List UInt8)) : Prop := ∀ i, i < ls.length → ∃ b off, a = some ⟨b, off, none⟩ ∧ b < w.heap.size ∧ w.cell? ⟨b, off + i, none⟩ = some (.string (bs (ln ls i)))
theorem RowL.below {w w' : World} {a : Option Addr} {ls : List (List UInt8)} (h : RowL w a ls) (hb : Below w.heap.size w w') : RowL w' a ls := by
  intro k hk
  obtain ⟨b, off, ha, hlt, h0⟩ := h k hk
  exact ⟨b, off, ha, Nat.lt_of_lt_of_le hlt hb.size, (World.cell?_of_block (w := w) (a := ⟨b, off + k, none⟩) (hb.block b hlt)).trans h0⟩
/-- From block base on: a slice of its own that holds the lines. -/
def OwnL (w : World) (base : Nat) (v : Value) (ls : List (List UInt8)) : Prop := w.ownsRow base 9 1 v ls.length (svals ls)
theorem OwnL.lt {w : World} {base : Nat} {v : Value} {ls : List (List UInt8)} (h : OwnL w base v ls) : ∀ k, v.ownBlock = some k → base ≤ k ∧ k < w.heap.size := World.ownsRow.lt h
theorem OwnL.shape {w : World} {base : Nat} {v : Value} {ls : List (List UInt8)} (h : OwnL w base v ls) : ∃ a cap, v = .slice a ls.length cap := own_shape h
theorem OwnL.rowL {w : World} {base : Nat} {a : Option Addr} {n cap : Nat} {ls : List (List UInt8)} (h : OwnL w base (.slice a n cap) ls) : RowL w a ls := by
  intro k hk
  obtain ⟨_, ⟨e, hn⟩ | ⟨g, c, cur, e, _, hb, hnc, hcm, hsz, hx⟩⟩ := h
  · omega
  · simp only [Value.slice.injEq] at e
    obtain ⟨rfl, -, -⟩ := e
    have hg : g < w.heap.size := (Array.getElem?_eq_some_iff.1 hb).1
    refine ⟨g, 0, rfl, hg, ?_⟩
    have := svals_at hk
    rw [Nat.zero_add]
    show _ = some (sv (ln ls k))
    rw [← this, ← hx, List.getElem?_take_of_lt (by omega), Array.getElem?_toList]
    simp [World.cell?, hb]
theorem OwnL.below {w w' : World} {base : Nat} {v : Value} {ls : List (List UInt8)} (h : OwnL w base v ls) (hb : Below w.heap.size w w') : OwnL w' base v ls :=
  World.ownsRow.kept h (gb_of_below hb none) (by cases e : v.ownBlock with
    | none => exact .inl rfl
    | some k => exact .inr (by simp))
theorem OwnL.alloc {w : World} {base : Nat} {v : Value} {ls : List (List UInt8)} (h : OwnL w base v ls) (o : Obj) : OwnL (w.alloc o) base v ls := h.below (below_box _ _)
theorem OwnL.drew {w : World} {base : Nat} {v : Value} {ls : List (List UInt8)} (h : OwnL w base v ls) : OwnL w.drew base v ls := h.below (Below.refl _ _).drew
theorem OwnL.other {w : World} {base : Nat} {v x : Value} {ls : List (List UInt8)} {a : Addr} (h : OwnL w base v ls) (ha : v.ownBlock ≠ some a.block) : OwnL (w.setCell a x) base v ls := ownsRow_setCell_other h ha x
theorem OwnL.mono {w : World} {base base' : Nat} {v : Value} {ls : List (List UInt8)} (h : OwnL w base v ls) (hb : base' ≤ base) : OwnL w base' v ls := by
  obtain ⟨h0, h⟩ := h
  exact ⟨h0, h.imp id fun ⟨g, cap, cur, e, hg, r⟩ => ⟨g, cap, cur, e, by omega, r⟩⟩
theorem OwnL.empty (w : World) : OwnL (w.alloc (.cells #[] 9)) w.heap.size (.slice (some ⟨w.heap.size, 0, none⟩) 0 0) [] :=
  ⟨rfl, .inr ⟨w.heap.size, 0, #[], rfl, Nat.le_refl _, blk_alloc_new _ _, Nat.le_refl _, by simp [maxLen], rfl, rfl⟩⟩
theorem OwnL.nil (w : World) (base : Nat) : OwnL w base (.slice none 0 0) [] := ⟨rfl, .inl ⟨rfl, rfl⟩⟩
theorem OwnL.push {w' : World} {base : Nat} {v' : Value} {ls : List (List UInt8)} {l : List UInt8} (ho : w'.ownsRow base 9 1 v' (ls.length + 1) (svals ls ++ [.string (bs l)])) : OwnL w' base v' (ls ++ [l]) := by
  unfold OwnL
  rw [List.length_append, List.length_singleton, show svals (ls ++ [l]) = svals ls ++ [.string (bs l)] by simp [svals, sv]]
  exact ho
theorem newsS (w : World) (s : ByteArray) (t : TypeId) : ∀ (j : Nat) (u : Value), [Value.string s][j]? = some u → (w.alloc (.cells #[.string s] t)).cell? ((⟨w.heap.size, 0, none⟩ : Addr).add j) = some u := by
  intro j u hj
  match j, hj with
  | 0, hj => simp at hj; subst hj; simp [Addr.add, go_sem]
  | j + 1, hj => simp at hj
theorem oneS (s : ByteArray) : ∀ u ∈ [Value.string s], u.oneCell' = true := by
  intro u hu
  simp at hu
  subst hu
  rfl
/-- A block that was just laid with the lines is a slice of its own. -/
theorem OwnL.laid (w : World) (ls : List (List UInt8)) (hn : ls.length ≤ maxLen) : OwnL (w.alloc (.cells (svals ls).toArray 9)) w.heap.size (.slice (some ⟨w.heap.size, 0, none⟩) ls.length ls.length) ls :=
  ⟨by rw [svals_len, Nat.mul_one], .inr ⟨w.heap.size, ls.length, (svals ls).toArray, rfl, Nat.le_refl _, blk_alloc_new _ _, Nat.le_refl _, hn, by simp [svals], List.take_of_length_le (by simp [svals])⟩⟩
/-- The answer is a slice of strings of the call's own. -/
def GotL (base : Nat) (ls : List (List UInt8)) (e : Ending) (w' : World) : Prop := ∃ v, e = .returned v ∧ OwnL w' base v ls
theorem bs_extract (l : List UInt8) (i j : Nat) : (bs l).extract i j = bs ((l.take j).drop i) := by
  apply ByteArray.ext
  simp [bs, ByteArray.data_extract, List.extract_toArray, List.extract_eq_take_drop, List.drop_take]

end Go.Proofs.YtdgihkmiolnglaaGreatDoor
